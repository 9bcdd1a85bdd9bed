import PyProof.Rows.All
import Wide.All
import OpenK.AllK
import Wide.FinOn
import Lean
import PyProof.EqAt
import PyProof.EqKinds
import PyProof.TupleCall
import KE.KRevIter
import PyProof.MinMaxWalk
import PySem.Challenge.RW_ringfell_k38_what_layers_take
open PySem renaming wpAny_bind → zY,Value → z9,wpAny_pure → Aa,Shared → Ac,sizeLine → Ao,Program → Au,wpAny → AA,model → AM,World → AV,wpAny_newObj_type → A2,FuncData → A3,mainGlobals → A9,Around → Bd,codeAny_builtin → Bi,starEach → Bt,wpAny_holding → Bw,bootBuiltins → Bz,plainId_quiet → BB,compareOp → BQ,wpAny_truthy_bool → B1,wpAny_updateSeq → B9,wpAny_ite_split → Ca,wpAny_call_entry → Cc,wpAny_of_eq → Cd,builtinLookup_eq_fast → Ci,wpAny_tryCatch → Cj,wpAny_mono → Cz,wpAny_callSpecial?_slot → CS,isSubtype_type → CV,mem_of_lookup → C3,wpAny_specialOf → C9,intItems → Df,wpAny_rule → Dh,wpAny_pyIter_tuple → Dk,wpAny_Call_Name_kw → Dl,wpAny_typeOf → Dm,sizeLine_eq → Dq,wpAny_seqItems → Dr,wpAny_passesOwn → Dy,wpAny_pyIter_list → Dz,typeLookup_type → DA,wpAny_field → DF,wpAny_attempt → DU,wpAny_forIn_list → DZ,wpAny_isInstance → D6,wpAny_letGo → Eb,codeAny_mono → Ei,wpAny_standAt → Et,tupleKind_room_in1 → Eu,codeAny → Ew,rawInt → Ex,backTo → Ez,wpAny_runValue → EE,holding → EM,codeAny_call_builtin → EO,call_meets → EV,wpAny_execs_nil → EZ,wpAny_setField_rec → Fc,wpAny_newList → FD,noFill_tuple_add → FF,wpAny_askSetting → FG,entryFor_of_tree → FH,richCompare_meets_room → FO,wpAny_Call_method_late → FQ,wpAny_isTrue_Compare1 → F2,wpAny_eqIsQuiet_tuple → F3,codeAny_of_tree → F6,weight_type_call_type → F7,typeIs_int → Ga,codeAny_extend_loopS → Gh,wpAny_setField → Gj,seqIndex_of → Gs,wpAny_setEntries_of → Gv,intItems_at → Gw,seq_tuple_add → GO,wpAny_eqBool_tuple → GR,signature?_of → GS,call_function_tree → GU,wpAny_evalAll_cons → GV,wpAny_load → G9,wpAny_call → Ha,wpAny_sequenceKey → Hb,wpAny_pyIter_slot → Hc,concat_meets → Hg,seqIndex_neg → Hh,wpAny_mkInt → HB,wpAny_Name → HP,numAt_eq → HZ
open PySem.Heap renaming get?_push_of_some → zZ,get?_push_size → Am,lt_size → An,get?_update_other → AF,get?_update_self → Bg,size_push → B7,get?_update_ne → Gm
open List renaming length_map → z4,getElem?_eq_getElem → Ab,size_toArray → Ad,length_append → Ae,getElem?_eq_some_iff → Af,mem_singleton → Ah,mem_of_getElem? → Aj,getD_eq_getElem?_getD → Aq,mem_append → As,getElem?_map → Aw,map_append → AE,mem_cons → AJ,mem_cons_of_mem → AK,map_cons → AL,mem_cons_self → AN,mem_append_right → AQ,length_cons → AR,append_nil → AU,getElem?_append_left → AW,replicate → AX,take_of_length_le → AY,getElem?_append_right → A0,append_assoc → A1,mem_iff_getElem? → Bb,mem_map → Bc,length_take → Bf,length_drop → Bk,take_add_one → Bm,range → Bv,getElem?_eq_none → Bx,mem_range → BA,drop_sublist → BE,length_singleton → BH,getElem?_toArray → BI,take_sublist → BL,pairwise_append → BO,replicate_succ → BS,pairwise_map → BX,filter_cons_of_pos → BZ,filter_cons_of_neg → B0,mem_of_mem_drop → B5,mem_of_mem_take → B6,extract_eq_take_drop → B8,flatten_cons → Ce,length_filter_le → Cg,length_nil → Ck,getElem?_take → Cn,take_length → Cs,getElem?_set_self → Ct,length_pos_iff → Cy,mem_filter → CC,take_append_drop → CD,filter_append → CH,mem_append_left → CK,getElem?_set_ne → CL,pairwise_singleton → CP,getElem?_cons_succ → CQ,length_range → CW,nodup_cons → C2,length_set → C6,length_reverse → C7,mem_map_of_mem → C8,all_eq_true → Dg,length_replicate → Di,pairwise_iff_getElem → Dp,idxOf_lt_length_iff → Dx,getElem_mem → DG,getElem?_drop → DI,perm_append_comm → DM,find?_cons → DP,any_cons → DQ,lookup_cons → DX,reverse_append → D8,getElem_of_mem → D9,mem_filterMap → Ej,getElem?_replicate → Ek,zip_cons_cons → Em,nil_append → Eo,length_eq_zero_iff → Er,ext_getElem? → EA,nodup_append → EC,drop_zero → ED,drop_append_of_le_length → EH,take_append_of_le_length → EI,not_mem_nil → EK,map_take → ER,map_drop → ES,filterMap_cons → EW,filter_map → EY,getElem?_zip_eq_some → Fd,take_zero → Fe,drop_left → Ff,nodup_nil → Fi,find?_range_eq_none → Fn,eq_of_mem_replicate → Fv,eraseIdx_cons_succ → Fw,drop_eq_nil_of_le → FK,of_mem_zip → FR,map_nil → FT,foldl_cons → FU,contains_iff_mem → FZ,filterMap_append → F1,reverse_reverse → Gd,getElem?_range → Gn,filter_eq_self → Gr,pairwise_cons → GD,getElem_idxOf → GK,sum_cons → GN,reverse_cons → G6,getElem?_set → G7,set_set → Hd,map_set → Hf,perm_middle → Hk,cons_append → Hm,nodup_range → Ho,range'_succ → Hs,length_zip → Hv,drop_drop → HG,take_succ → HH,all_cons → HS,all_map → Ib
open PySem.W renaming Frag → z8,mg_none_of → Br,nsIn → BC,kia_one → BR,mg_of → ET,cellsFrom_some → FI,kat_nil → FX,kitx_tuple → Gz,kitx_list → GX,kitx_dict → GY,binds_K → Hz
open Nat renaming le_refl → Ag,lt_of_lt_of_le → Ax,ne_of_lt → AD,le_trans → A4,lt_irrefl → A5,zero_le → A7,lt_succ_of_lt → Bo,lt_succ_self → BK,lt_of_succ_lt → Cw,lt_of_le_of_lt → CG,le_add_right → CJ,le_sub_one_of_lt → CN,le_of_lt_succ → Dw,le_of_lt → DC,add_sub_cancel_left → DD,eq_zero_of_not_pos → DH,eq_zero_or_pos → DJ,zero_add → DN,le_succ_of_le → DR,lt_of_not_le → DY,add_le_add_left → D7,ne_of_gt → Ec,succ_pos → Ef,lt_or_ge → Eh,le_antisymm → Ep,mod_lt → EB,le_of_not_lt → EF,sub_one_lt_of_lt → EN,not_lt_zero → EX,min_self → E7,sub_zero → FV,le_of_sub_eq_zero → FW,sub_self → FY,pow_le_pow_right → Gg,lt_of_le_of_ne → GF,sub_pos_of_lt → G1,le_of_succ_le → G2,succ_le_succ → Hl,min_eq_left → Hu,le_zero → Hy,add_assoc → HU
open Array renaming length_toList → Ai,getElem?_toList → Ap,getElem?_eq_getElem → AG,toList_append → A8,size_map → BG,mem_toList_iff → BN,getElem?_eq_some_iff → B3,getD_eq_getD_getElem? → Co,toList_push → Cv,toList_extract → CM,getElem?_eq_none → De,toList_reverse → Ds,size_push → Dv,size_append → DS,toList_map → EJ,toList_setIfInBounds → E4,perm_iff_toList_perm → E5,size_setIfInBounds → Fm,getElem?_replicate → Fo,getElem?_map → GG,forIn_toList → GH,getElem_mem → G3,toList_inj → Hn
open Bool renaming false_ne_true → Ak,false_eq_true → Ay,and_eq_true → BD,not_true → BW,false_and → CT,and_false → CU,eq_iff_iff → DK,eq_false_iff → DT,not_false → Gi,false_or → GJ,or_false → HV
open PySem.Value renaming ref → Ar,int → Cb,type → CI,none → CZ,isInt_shape → GW
open PyProof.Rows renaming wpS_bind → Av,Keyed → Az,wpS_pure → AB,arrOf → AH,pendingOf → AO,SortSt → AS,slot_tuple_getitem → Bj,wpS_forRange → BJ,IntsAre → CA,wpS_mono → CB,wpS_modify → CY,callWith_type1 → C1,reverseSlice'_eq → EL,KeyOrd → E1,assignInOrder_cons → Fb,wpS_get → Fj,wpS_lift → FC,subscriptTail_builtinR → FP,getElem?_mirror_all → Gu,args_tuple_getitem → GP,listUpdate_at → GQ,assignInOrder_nil → G8,listItems_at → Hi,len_tuple → HA,size_push' → HQ,isInt_at → HY
open Option.some renaming inj → AI
open PySem.F renaming plain_min_loop → AZ,plainAttrs_list → Be,slot_list_append → Bp,type_list_append → Bq,called_set → BV,entry_min_loop → Cu,plain_extend_loop → Ea,args_tuple_add_2 → Ee,entry_tuple_add → En,slot_tuple_add → Ey,args_object_init_2 → E6,plain_extend_loop → Fh,slot_tuple_count → Fp,plain_min → Fs,entry_min → Ft,slot_tuple_index → Fu,slot_list_index → Fz,plain_list_iadd → FA,kind_min → FE,typeCall_set_1 → FL,mro_reversed → Ge,entry_extend_loop → Gq,entry_type_call → G4,plain_list_iadd → G5,entry_set_init → Hq,slot_int_rmul → Ht,plain_set_new → Hw,slot_set_iter → Hx
open PyProof.Rows.KeyOrd renaming kle_trans → A6,kle_of_klt → BM,kle_refl → Cm,kle_antisymm → Gk
open PySem.Around renaming under_plainId → Ba,under_plain → GI
open PySem.PassesOwn renaming never → Bh
open PySem.Builtin.List renaming listExtendWith → BF,listLengthHint → Dc,listSameRef → DB
open Int renaming emod_lt_of_pos → BP,emod_nonneg → BU,toNat_natCast → Dt,gcd_pos_of_ne_zero_right → EU,fdiv_eq_ediv_of_nonneg → E3,zero_add → E9,mul_ediv_cancel' → Gf,add_zero → He,natAbs_mul → HI
open Ne renaming symm → B4
open List.Perm renaming append_left → Cf,append_right → Dd,refl → DV
open Iff renaming rfl → Cp
open Option renaming toList_some → Cq,map_some → Du,isSome_iff_exists → Ed,isSome_map → Fq,map_eq_some_iff → FN,getD_none → Hj
open PySem.Obj renaming mapSeq → Cr,data_mapFields → Es,isFreed_of_fields → F0
open List.Nodup renaming length_le_of_subset → CF
open PySem.Paired renaming length → CO,snoc → Ih
open PySem.SeqAt renaming EqAt → C0
open PySem.SeqAt.EqAt renaming int_int → Dj,same → DL,int_str → Gx,str_int → Gy,str_str → GB,of_refs → GC
open PyProof.Rows.F renaming plain_set_update_loop → DE,entry_set_update_loop → Fx
open Classical renaming byContradiction → DW
open List.Pairwise renaming imp_of_mem → Eg,imp → Ik,and → Il
open PySem.SeqAt.RcAt renaming lists → EG,tuples → Fl
open PySem.Calls renaming Name_function_global → E2,call_function_entry → Fg,callWith_builtin → FJ,evalArgs_plain → Gb,spliced_cons → GA,spliced_nil → GZ
open PySem.Code renaming quiet_builtin → E8
open PySem.Walks renaming tuple → Fy,list → G0
open Std.Legacy.Range renaming forIn_eq_forIn_range' → F8
open PySem.Heap.SameBut renaming update → Gp
open PySem.SeqAt.RcNeAt renaming lists → GL
open PySem.Heap.ExtBut renaming push → Hr
open PySem.EqMixed renaming eq_bool_str → HC,eq_str_bool → HD,ne_bool_str → HE,ne_str_bool → HF,eq_int_str → HJ,eq_str_int → HK,ne_int_str → HL,ne_str_int → HM
open Prod renaming ext → HR
open PySem.CmpOf renaming ints_lt → HW
open PySem.Moved renaming eq_with → HX,trans → Ig
open PySem.W.Looks renaming of_pure → Ia
open PySem.W.KatTups renaming cons → Ic
open Sum.inl renaming inj → Ie
open PySem.ItemsOf renaming nil → Ii
open PySem.Heap.IsSliceOf renaming new → Ij
set_option Elab.async false
set_option linter.all false
set_option maxRecDepth 100000
namespace L2
open PySem PySem.Spec PyProof.Rows
abbrev Key:=Sum Int Str
def kJ:Key->z9->Bool
 | .inl k,v=>Value.isInt k v
 | .inr x,v=>Value.isStrOf x v
def keyH (w:AV):Key->Int
 | .inl k=>hashInt k
 | .inr x=>hashStr w x
theorem bp:∀{k:Key} {v:z9},kJ k v=true->(∃i t,k=Sum.inl i/\v=Cb i t)\/(∃x t,k=Sum.inr x/\v=Value.str x t)
 | .inl i,v,h=>by
  obtain ⟨t,e⟩:=GW (k:=i) (v:=v) h
  exact .inl ⟨i,t,rfl,e⟩
 | .inr x,v,h=>by
  obtain ⟨t,e⟩:=Value.isStrOf_shape (x:=x) (v:=v) h
  exact .inr ⟨x,t,rfl,e⟩
theorem rA (i:Int)(t:Tok):kJ (.inl i) (.int i t)=true:=by simp[kJ,Value.isInt]
theorem rC (x:Str)(t:Tok):kJ (.inr x) (.str x t)=true:=by simp[kJ,Value.isStrOf]
theorem xI (a b:Int):decide ((Sum.inl a:Key)=Sum.inl b)=(a == b):=by
 by_cases e:a=b
 ·subst e;simp
 ·have h:¬ (Sum.inl a:Key)=Sum.inl b:=λq=>e (Ie q)
  rw[decide_eq_false h]
  exact (beq_eq_false_iff_ne.mpr e).symm
theorem xJ (a b:Str):decide ((Sum.inr a:Key)=Sum.inr b)=decide (a=b):=by
 by_cases e:a=b
 ·subst e;simp
 ·have h:¬ (Sum.inr a:Key)=Sum.inr b:=λq=>e (Sum.inr.inj q)
  rw[decide_eq_false h,decide_eq_false e]
theorem xK (a:Int)(b:Str):decide ((Sum.inl a:Key)=Sum.inr b)=false:=decide_eq_false (λq=>nomatch q)
theorem xM (a:Str)(b:Int):decide ((Sum.inr a:Key)=Sum.inl b)=false:=decide_eq_false (λq=>nomatch q)
def bA (prog:Au)(w:AV):PySem.KeyKind prog w Key where
 is:=kJ
 hash:=keyH w
 inj:=λv a b ha hb=>by
  rcases bp ha with ⟨i,t,rfl,rfl⟩ | ⟨x,t,rfl,rfl⟩
  ·rcases bp hb with ⟨j,u,rfl,e⟩ | ⟨y,u,rfl,e⟩
   ·injection e with e1 _;rw[e1]
   ·exact nomatch e
  ·rcases bp hb with ⟨j,u,rfl,e⟩ | ⟨y,u,rfl,e⟩
   ·exact nomatch e
   ·injection e with e1 _;rw[e1]
 byValue:=λk v h=>by
  rcases bp h with ⟨i,t,rfl,rfl⟩ | ⟨x,t,rfl,rfl⟩ <;> rfl
 pyHash:=λhv h=>by
  rcases bp hv with ⟨i,t,rfl,rfl⟩ | ⟨x,t,rfl,rfl⟩
  ·exact wpAny_pyHash_int h
  ·exact wpAny_pyHash_str h
 eqBool:=λhu hv h=>by
  rcases bp hu with ⟨i,t,rfl,rfl⟩ | ⟨x,t,rfl,rfl⟩
  ·rcases bp hv with ⟨j,u,rfl,rfl⟩ | ⟨y,u,rfl,rfl⟩
   ·rw[xI] at h;exact wpAny_eqBool_int h
   ·rw[xK] at h;exact Gx i t y u _ _ _ _ h
  ·rcases bp hv with ⟨j,u,rfl,rfl⟩ | ⟨y,u,rfl,rfl⟩
   ·rw[xM] at h;exact Gy x t j u _ _ _ _ h
   ·rw[xJ] at h;exact wpAny_eqBool_str h
 «strs» := λk x t v h=>by
  rcases bp h with ⟨i,u,rfl,e⟩ | ⟨y,u,rfl,e⟩
  ·exact nomatch e
  ·injection e with e1 _
   subst e1
   cases v <;> rfl
theorem nC (prog:Au)(w:AV)(i:Int)(t:Tok):(bA prog w).is (.inl i) (.int i t)=true:=rA i t
theorem nD (prog:Au)(w:AV)(x:Str)(t:Tok):(bA prog w).is (.inr x) (.str x t)=true:=rC x t
open PySem PySem.Spec PyProof.Rows
inductive V where
 | non | bl (b:Bool) | int (i:Int) | str (x:Str) | byt (b:Array UInt8) | flt (b:UInt64) | ref (a:Addr) | ty (n:String)
 deriving DecidableEq
def RelV:V->z9->Prop
 | .non,u=>u=CZ
 | .bl b,u=>u=Value.bool b
 | .int i,u=>∃t,u=Cb i t
 | .str x,u=>∃t,u=Value.str x t
 | .byt b,u=>∃t,u=Value.bytes b t
 | .flt b,u=>∃t,u=Value.float b t
 | .ref a,u=>u=Ar a
 | .ty n,u=>u=CI n
abbrev Vals:List V->List z9->Prop:=Paired RelV
theorem Vals.length {xs:List V}{us:List z9}(r:Vals xs us):xs.length=us.length:=CO r
theorem Vals.get:∀{xs:List V} {us:List z9} {i:Nat} {x:V},Vals xs us->xs[i]? = some x->∃u,us[i]? = some u/\RelV x u
 | _,_,_,_,.nil,e=>by simp at e
 | _,_,0,_,.cons r _,e=>by simp at e;subst e;exact ⟨_,rfl,r⟩
 | _,_,i+1,x,.cons _ t,e=>by
  obtain ⟨u,h1,h2⟩:=Vals.get (i:=i) (x:=x) t (by simpa using e)
  exact ⟨u,by simpa using h1,h2⟩
theorem Vals.set {x:V}{u:z9}(r:RelV x u):∀{xs:List V} {us:List z9} (i:Nat),Vals xs us->Vals (xs.set i x) (us.set i u)
 | _,_,_,.nil =>.nil
 | _,_,0,.cons _ t =>.cons r t
 | _,_,i+1,.cons q t =>.cons q (Vals.set r i t)
theorem Vals.append:∀{xs ys:List V} {us ws:List z9},Vals xs us->Vals ys ws->Vals (xs++ys) (us++ws)
 | _,_,_,_,.nil,s=>s
 | _,_,_,_,.cons r t,s =>.cons r (Vals.append t s)
theorem Vals.take:∀{xs:List V} {us:List z9} (n:Nat),Vals xs us->Vals (xs.take n) (us.take n)
 | _,_,0,_ =>.nil
 | _,_,_+1,.nil =>.nil
 | _,_,n+1,.cons r t =>.cons r (Vals.take n t)
theorem Vals.drop:∀{xs:List V} {us:List z9} (n:Nat),Vals xs us->Vals (xs.drop n) (us.drop n)
 | _,_,0,r=>r
 | _,_,_+1,.nil =>.nil
 | _,_,n+1,.cons _ t=>Vals.drop n t
def jt:Option V->Option z9->Prop
 | some v,some u=>RelV v u
 | none,none=>True
 | _,_=>False
def KV {κ:Type}:List (κ×V)->List (κ×z9)->Prop:=Paired λ(p:κ×V) (q:κ×z9)=>p.1=q.1/\RelV p.2 q.2
def kV:Key->V
 | .inl i =>.int i
 | .inr x =>.str x
inductive HO where
  | lst (xs:List V)
  | tup (xs:List V)
  | dK (kvs:List (Key×V)) | dT (kvs:List (List Key×V))
  | set (S:Int->Bool) (n:Nat)
  | ins (C dx:Addr) (fs:List (Str×V))
  | own (x:Addr)
  | xd (fs:List (Str×V))
  | met (f x:Addr)
  | rng (lo hi:Int)
  | frz (o:Obj) (u:HO)
  | tbl (ps:Array z9)
  | ext (φ:Heap->Prop)
abbrev Hp:=Addr->Option HO
def upd (H:Hp)(a:Addr)(o:HO):Hp:=λb=>if b=a then some o else H b
theorem ah {H:Hp}{a:Addr}{o:HO}:upd H a o a=some o:=by unfold upd;rw[if_pos rfl]
theorem aD {H:Hp}{a b:Addr}{o:HO}(h:b≠a):upd H a o b=H b:=by unfold upd;rw[if_neg h]
theorem iK {H:Hp}{a b:Addr}{o u:HO}(h:H a=some o)(h':H b=some u)(d:o≠u):a≠b:=by
 intro e;subst e;rw[h] at h';exact d (AI h')
theorem aN {H:Hp}{a b:Addr}{o:HO}(h:H a=some o)(h':H b=none):a≠b:=by
 intro e;subst e;rw[h] at h';cases h'
def di (h:Heap)(a:Addr)(items:Array z9):Prop:=∃o,h.get? a=some o/\(o.cls = .type "tuple" /\ o.dict=none)/\∃n,o.data = .seq items n
theorem di.tup {h:Heap}{a:Addr}{items:Array z9}(x:di h a items):IsTup h a items:=let ⟨o,e,c,n,d⟩:=x;⟨o,e,c.1,n,d⟩
theorem di.new (h:Heap)(items:Array z9):di (h.push { cls :=.type "tuple",data :=.seq items }) h.objs.size items:=⟨_,Am _ rfl,⟨rfl,rfl⟩,_,rfl⟩
section
variable  (P:Au)(w:AV)
def a6 (H:Hp)(h:Heap)(a:Addr):HO->Prop
 | .lst xs=>xs.length<=Ao/\∃(its:List z9) (n:Nat),Vals xs its/\h.get? a=some { cls :=.type "list",data :=.seq its.toArray n }
 | .tup xs=>xs.length<=Ao/\∃its:List z9,Vals xs its/\di h a its.toArray
 | .dK kvs=>kvs.length<=Ao/\(a == sysModules)=false/\∃vs,KV kvs vs/\h.DictOf (bA P w) a vs
 | .dT kvs=>kvs.length<=Ao/\(a == sysModules)=false/\∃xs:List (List Key×Addr×z9),
   Paired (λ(p:List Key×V) (q:List Key×Addr×z9)=>p.1=q.1/\H q.2.1=some (.tup (p.1.map kV))/\RelV p.2 q.2.2) kvs xs ∧
   ∃o es ep,h.get? a=some o/\o.ExactDict/\o.data = .dict es ep/\es.toList=xs.map (entryOfKey (tupleKind (bA P w)))/\(xs.map (·.1)).Nodup
 | .set S n=>h.SetOf (intKind P w) a S n
 | .ins C dx fs=>H dx=some (.own a)/\fs.length<=1000/\dx≠a/\h.get? a=some (PySem.W.instObj C dx) ∧
   ∃mA,h.Ns1 dx mA/\(∀f,jt (fs.lookup f) (mA f))/\PySem.Within mA (fs.map (·.1))
 | .own _=>∃o,h.get? a=some o
 | .xd fs=>∃mA,h.Ns1 a mA/\∀f,jt (fs.lookup f) (mA f)
 | .rng lo hi=>∃t u v,h.get? a=some { cls :=.type "range",data :=.fields #[.int lo t,.int hi u,.int 1 v] }
 | .frz o u=>h.get? a=some o/\a6 H h a u
 | .tbl ps=>h.get? a=some { cls :=.none,data :=.fields ps }
 | .met f x=>h.get? a=some (PySem.W.methodObj (.ref f) (.ref x))
 | .ext φ=>φ h/\(∃o,h.get? a=some o)/\∀h1 h2:Heap, φ h1->(∀o,h1.get? a=some o->h2.get? a=some o) -> φ h2
def HOk (H:Hp)(h:Heap):Prop:=∀a o,H a=some o->a6 P w H h a o
end
section
variable  {P:Au}{w:AV}{H H':Hp}{h h':Heap}{a:Addr}{o:HO}
theorem a6.lt (x:a6 P w H h a o):a<h.objs.size:=by
 cases o with
 | lst xs=>obtain ⟨_,_,_,_,e⟩:=x;exact An e
 | tup xs=>obtain ⟨_,_,_,p⟩:=x;exact (di.tup p).lt
 | dK kvs=>obtain ⟨_,_,_,_,o,_,_,e,_⟩:=x;exact An e
 | dT kvs=>obtain ⟨_,_,_,_,o,_,_,e,_⟩:=x;exact An e
 | set S n=>obtain ⟨o,_,_,_,e,_⟩:=x;exact An e
 | ins C dx fs=>obtain ⟨_,_,_,e,_⟩:=x;exact An e
 | own y=>obtain ⟨_,e⟩:=x;exact An e
 | xd fs=>obtain ⟨_,⟨_,_,_,e,_⟩,_⟩:=x;exact An e
 | rng lo hi=>obtain ⟨_,_,_,e⟩:=x;exact An e
 | frz ob u=>obtain ⟨e,_⟩:=x;exact An e
 | tbl ps=>exact An (show h.get? a=some _ from x)
 | met f y=>exact An (show h.get? a=some _ from x)
 | ext φ=>obtain ⟨_,⟨_,e⟩,_⟩:=x;exact An e
theorem Paired.xN {α β:Type}{F G:α -> β -> Prop}:∀{l₁:List α} {l₂:List β},Paired F l₁ l₂->(∀a b,F a b->G a b)->Paired G l₁ l₂
 | _,_,.nil,_ =>.nil
 | _,_,.cons r t,f =>.cons (f _ _ r) (Paired.xN t f)
theorem a6.stay (x:a6 P w H h a o)(k:∀b u,(b=a\/H b=some (.own a))->h.get? b=some u->h'.get? b=some u)
  (ho:∀b,H b=some (.own a)->H' b=some (.own a)) (ht:∀b xs,H b=some (.tup xs)->H' b=some (.tup xs)):a6 P w H' h' a o:=by
 induction o with
 | lst xs=>obtain ⟨z,its,n,r,e⟩:=x;exact ⟨z,its,n,r,k _ _ (.inl rfl) e⟩
 | tup xs=>obtain ⟨z,its,r,ob,e,c⟩:=x;exact ⟨z,its,r,ob,k _ _ (.inl rfl) e,c⟩
 | dK kvs=>obtain ⟨z,y,vs,r,ob,es,ep,e,c⟩:=x;exact ⟨z,y,vs,r,ob,es,ep,k _ _ (.inl rfl) e,c⟩
 | dT kvs =>
  obtain ⟨z,y,xs,r,ob,es,ep,e,c⟩:=x
  exact ⟨z,y,xs,Paired.xN r λp q z=>⟨z.1,ht _ _ z.2.1,z.2.2⟩,ob,es,ep,k _ _ (.inl rfl) e,c⟩
 | set S n=>obtain ⟨ob,es,ep,t,e,c⟩:=x;exact ⟨ob,es,ep,t,k _ _ (.inl rfl) e,c⟩
 | ins C dx fs =>
  obtain ⟨d,z,ne,e,mA,⟨od,es,ep,e2,c⟩,r⟩:=x
  exact ⟨ho _ d,z,ne,k _ _ (.inl rfl) e,mA,⟨od,es,ep,k _ _ (.inr d) e2,c⟩,r⟩
 | own y=>obtain ⟨ob,e⟩:=x;exact ⟨ob,k _ _ (.inl rfl) e⟩
 | xd fs=>obtain ⟨mA,⟨od,es,ep,e,c⟩,r⟩:=x;exact ⟨mA,⟨od,es,ep,k _ _ (.inl rfl) e,c⟩,r⟩
 | rng lo hi=>obtain ⟨t,u,v,e⟩:=x;exact ⟨t,u,v,k _ _ (.inl rfl) e⟩
 | frz ob u ih=>obtain ⟨e,q⟩:=x;exact ⟨k _ _ (.inl rfl) e,ih q⟩
 | tbl ps =>
  have e:h.get? a=some { cls :=.none,data :=.fields ps }:=x
  show h'.get? a=some { cls :=.none,data :=.fields ps }
  exact k a _ (.inl rfl) e
 | met f y =>
  have e:h.get? a=some (PySem.W.methodObj (.ref f) (.ref y)):=x
  show h'.get? a=some (PySem.W.methodObj (.ref f) (.ref y))
  exact k a _ (.inl rfl) e
 | ext φ=>obtain ⟨p,⟨o,e⟩,st⟩:=x;exact ⟨st _ _ p λo q=>k _ _ (.inl rfl) q,⟨o,k _ _ (.inl rfl) e⟩,st⟩
theorem HOk.lt (x:HOk P w H h)(e:H a=some o):a<h.objs.size:=(x a o e).lt
theorem HOk.fresh (x:HOk P w H h)(e:h.objs.size<=a):H a=none:=by
 cases q:H a with
 | none=>rfl
 | some u=>exact absurd (Ax (x.lt q) e) (A5 _)
theorem HOk.kept (x:HOk P w H h)(k:∀b u,h.get? b=some u->h'.get? b=some u):HOk P w H h':=λa o e =>
 (x a o e).stay (λb u _ q=>k b u q) (λ_ q=>q) λ_ _ q=>q
theorem HOk.laid (x:HOk P w H h)(k:∀b u,h.get? b=some u->h'.get? b=some u)(hp:h.objs.size<=a)(new:a6 P w (upd H a o) h' a o):HOk P w (upd H a o) h':=λb u e=>by
 have hn:=x.fresh hp
 by_cases hb:b=a
 ·subst hb;rw[ah] at e;cases e;exact new
 ·rw[aD hb] at e
  exact (x b u e).stay (λc v _ q=>k c v q) (λc q=>by rw[aD (aN q hn)];exact q) λc xs q=>by rw[aD (aN q hn)];exact q
end
def Rd (H:Hp)(a:Addr)(u:HO):Prop:=H a=some u\/∃o,H a=some (.frz o u)
theorem Rd.ok {P:Au}{w:AV}{H:Hp}{h:Heap}{a:Addr}{u:HO}(r:Rd H a u)(x:HOk P w H h):a6 P w H h a u:=by
 rcases r with r | ⟨o,r⟩
 ·exact x a u r
 ·obtain ⟨_,q⟩:=x a _ r
  exact q
def Mut:Option HO->Prop
 | some (.lst _)=>True
 | some (.dK _)=>True
 | some (.dT _)=>True
 | some (.set _ _)=>True
 | some (.ins _ _ _)=>True
 | some (.ext _)=>True
 | _=>False
section
variable  {P:Au}{w:AV}{H:Hp}{h h':Heap}{x e:Addr}{o':HO}
theorem HOk.write (ok:HOk P w H h)(mu:Mut (H x))(he:e=x\/H e=some (.own x))(k:∀b u,b≠e->h.get? b=some u->h'.get? b=some u)(heo:∃u,h'.get? e=some u)
  (new:a6 P w (upd H x o') h' x o'):HOk P w (upd H x o') h':=λb u q=>by
 have nown:∀c y,H c=some (.own y)->c≠x:=λc y r z=>by subst z;rw[r] at mu;exact mu
 have ntup:∀c xs,H c=some (.tup xs)->c≠x:=λc xs r z=>by subst z;rw[r] at mu;exact mu
 by_cases hb:b=x
 ·subst hb;rw[ah] at q;cases q;exact new
 ·rw[aD hb] at q
  by_cases hbe:b=e
  ·have q':H b=some (.own x):=by
    rcases he with z | z
    ·exact absurd (hbe.trans z) hb
    ·rw[hbe];exact z
   rw[q] at q';cases q'
   obtain ⟨v,hv⟩:=heo
   exact ⟨v,by rw[hbe];exact hv⟩
  ·refine (ok b u q).stay (λc v hc r=>k c v ?_ r) (λc r=>by rw[aD (nown c b r)];exact r) λc xs r=>by rw[aD (ntup c xs r)];exact r
   rcases hc with rfl | hc
   ·exact hbe
   ·rintro rfl
    rcases he with z | z
    ·exact nown c b hc z
    ·rw[hc] at z;cases z;exact hb rfl
end
structure Un (fs ex:List Addr)(H H':Hp)(h h':Heap):Prop where
 keep:∀b o,h.get? b=some o->H b=none->b∉fs->b∉ex->h'.get? b=some o
 slot:∀b o,h.get? b=some o->H b=none->b∈fs->b∉ex->∃sl,h'.get? b=some { o with slots:=sl }
 free:∀b o,h.get? b=some o->H b=none->b∉ex->H' b=none
 there:∀b o,h.get? b=some o->b∉ex->∃o',h'.get? b=some o'
 tups:∀b xs,H b=some (.tup xs)->H' b=some (.tup xs)
 frzs:∀b o u,H b=some (.frz o u)->H' b=some (.frz o u)
 tbls:∀b ps,H b=some (.tbl ps)->∃more,H' b=some (.tbl (ps++more))
section
variable  {fs fs' ex ex':List Addr}{H H1 H2:Hp}{h h1 h2 h':Heap}{a x e:Addr}{o:HO}
theorem Un.any (u:Un fs ex H H1 h h1){b:Addr}{ob:Obj}(q:h.get? b=some ob)(n:H b=none)(hx:b∉ex):∃sl,h1.get? b=some { ob with slots:=sl }:=by
 by_cases hb:b∈fs
 ·exact u.slot b ob q n hb hx
 ·exact ⟨ob.slots,u.keep b ob q n hb hx⟩
theorem Un.kept (k:∀b u,h.get? b=some u->h'.get? b=some u):Un fs ex H H h h' :=
 ⟨λb ob q _ _ _=>k b ob q,λb ob q _ _ _=>⟨ob.slots,k b ob q⟩,λ_ _ _ n _=>n,λb ob q _=>⟨ob,k b ob q⟩,λ_ _ q=>q,λ_ _ _ q=>q,λ_ ps q=>⟨#[],by rw[q];simp⟩⟩
theorem Un.refl:Un fs ex H H h h:=Un.kept λ_ _ q=>q
theorem Un.laid (k:∀b u,h.get? b=some u->h'.get? b=some u)(hp:h.objs.size<=a)(hn:H a=none):Un fs ex H (upd H a o) h h' where
 keep:=λb u q _ _ _=>k b u q
 slot:=λb u q _ _ _=>⟨u.slots,k b u q⟩
 free:=λb u q n _=>by rw[aD (AD (Ax (An q) hp))];exact n
 there:=λb u q _=>⟨u,k b u q⟩
 tups:=λb xs q=>by rw[aD (aN q hn)];exact q
 frzs:=λb u xs q=>by rw[aD (aN q hn)];exact q
 tbls:=λb ps q=>⟨#[],by rw[aD (aN q hn),q];simp⟩
theorem Un.write (mu:Mut (H x))(he:e=x\/H e=some (.own x))(k:∀b u,b≠e->h.get? b=some u->h'.get? b=some u)(heo:∃u,h'.get? e=some u):Un fs ex H (upd H x o) h h':=by
 have hx:∀b,H b=none->b≠x:=λb n z=>by subst z;rw[n] at mu;exact mu
 have hb:∀b,H b=none->b≠e:=λb n z=>by
  subst z
  rcases he with r | r
  ·exact hx b n r
  ·rw[n] at r;cases r
 have hm:∀b u,H b=some u->¬ Mut (some u)->b≠x:=λb u q nm z=>by subst z;rw[q] at mu;exact nm mu
 refine ⟨λb u q n _ _=>k b u (hb b n) q,λb u q n _ _=>⟨u.slots,k b u (hb b n) q⟩,λb u q n _=>by rw[aD (hx b n)];exact n,λb u q _ =>?_,
  λb xs q=>by rw[aD (hm b _ q λz=>z)];exact q,λb u xs q=>by rw[aD (hm b _ q λz=>z)];exact q,λb ps q=>⟨#[],by rw[aD (hm b _ q λz=>z),q];simp⟩⟩
 by_cases hbe:b=e
 ·subst hbe;exact heo
 ·exact ⟨u,k b u hbe q⟩
end
def trk (h:Heap)(H:Hp):List Addr:=(Bv h.objs.size).filter λa=>(H a).isSome
def l8 (h:Heap)(H:Hp):Heap:=PySem.W.hideAll h (trk h H)
theorem rD (h:Heap)(H:Hp):(l8 h H).objs.size=h.objs.size:=PySem.W.hideAll_size _ _
theorem sW {h:Heap}{H:Hp}{b:Addr}{o:Obj}(e:h.get? b=some o)(n:H b=none):(l8 h H).get? b=some o :=
 PySem.W.hideAll_get _ e λhm=>by
  have q:(H b).isSome=true:=(CC.mp hm).2
  rw[n] at q;simp at q
theorem vA {h:Heap}{H:Hp}{b:Addr}{o:Obj}(e:(l8 h H).get? b=some o):h.get? b=some o/\H b=none:=by
 have e':h.get? b=some o:=PySem.W.of_hideAll (trk h H) e
 refine ⟨e',?_⟩
 cases q:H b with
 | none=>rfl
 | some x =>
  have hm:b∈trk h H:=CC.mpr ⟨BA.mpr (An e'),by simp[q]⟩
  have z:(l8 h H).get? b=none:=PySem.W.hideAll_none (trk h H) hm
  rw[z] at e;cases e
def vD (g h:Heap)(L:Addr):List (Addr×Obj):=(Bv h.objs.size).filterMap λa=>if a=L\/(g.get? a).isSome=true then none else (h.get? a).map λo=>(a,o)
def rest (g h:Heap)(L d:Addr):List (Addr×Obj):=(vD g h L).filter λp=>decide (p.1≠d)
open PySem PySem.Spec PyProof.Rows
structure Mod (K:z8)(mg:Str->Option z9)(base:Heap):Prop where
 kin:K.In base
 glob:base.Ns A9 mg
 blt:∃mb,base.Ns builtinsNs mb/\∀x:Str,x ≠ "__name__" -> mb x=Bz x
 nolimit:base.NoLimit
structure Cx where
 prog:Au
 w:AV
 K:z8
 mg:Str->Option z9
 base:Heap
 A:Bd
 N:List Str
 s₀:Ac
 H₀:Hp
 env:Env
 outer:List Env
 stack:List Env
 ex:List Addr
 fn:Str->Bool
 calm:Bool
 pn:List (Addr×Obj)
 xe:z9->Ac->Prop
def frs (l:List Env):List Addr:=l.filterMap (·.frame)
abbrev Cx.fs (X:Cx):List Addr:=frs X.outer
def Vis (sc:Scope)(x:Str):Prop:=sc.names.lookup x=some .local\/sc.names.lookup x=some .cell\/sc.names.lookup x=some .free
def Loc (sc:Scope)(x:Str):Prop:=sc.names.lookup x=some .local\/sc.names.lookup x=some .cell
def Look (env:Env)(h:Heap)(m:Str->Option z9)(x:Str)(u:z9):Prop :=
 (env.kindOf x=some .local/\m x=some u)\/((env.kindOf x=some .cell\/env.kindOf x=some .free)/\∃c,env.cells.lookup x=some c/\h.IsCell c (some u))
structure Cx.Ok (X:Cx):Prop where
 mod:Mod X.K X.mg X.base
 kind:X.env.scope.kind = .function
 glob:X.env.globals=A9
 blt:X.env.builtins=builtinsNs
 above:X.s₀.heap.objs.size<=X.env.locals
 inj:∀x y c,X.env.cells.lookup x=some c->X.env.cells.lookup y=some c->x=y
 has:∀x,(X.env.kindOf x=some .cell\/X.env.kindOf x=some .free)->∃c,X.env.cells.lookup x=some c
 cab:∀x c,X.fn x=true->X.env.cells.lookup x=some c->X.s₀.heap.objs.size<=c
 hd:X.calm=true->X.A.handled=none
 frames:X.A.frames=some X.stack
 stk:X.stack=X.outer\/(X.stack=X.env :: X.outer/\X.env.frame=some X.env.locals)
 exf:∀b∈X.ex,b≠X.env.locals/\∀x c,X.env.cells.lookup x=some c->c≠b
 bs:∀b o,X.base.get? b=some o->X.s₀.heap.get? b=some o/\X.H₀ b=none
 bsz:X.base.objs.size<=X.s₀.heap.objs.size
 noex:∀b o,X.base.get? b=some o->b∉X.ex
 exfs:∀b∈X.ex,b∉X.fs
 funs:X.s₀.heap.FunFrames X.base X.outer
 frf:∀b∈X.fs,X.H₀ b=none
structure Inv (X:Cx)(pins:List (Addr×Obj))(σ:List (Option V))(H:Hp)(s:Ac):Prop where
 ok:X.Ok
 os:s.os=X.s₀.os
 bare:AllBare s.gens
 base:Un X.fs X.ex X.H₀ H X.s₀.heap s.heap
 loc:∃m,s.heap.Ns X.env.locals m/\∀(i:Nat) (x:Str) (v:V),X.N[i]? = some x->σ[i]? = some (some v)->Vis X.env.scope x->∃u,RelV v u/\Look X.env s.heap m x u
 cell:∀x c,X.env.cells.lookup x=some c->∃v,s.heap.IsCell c v
 free:H X.env.locals=none
 freeC:∀x c,X.env.cells.lookup x=some c->H c=none
 pin:∀p∈X.pn++pins,s.heap.get? p.1=some p.2/\H p.1=none/\p.1≠X.env.locals/\p.1∉X.fs/\∀v,p.2.data ≠ .cell v
 hok:HOk X.prog X.w H s.heap
 len:σ.length=X.N.length
section
variable  {X:Cx}{pins:List (Addr×Obj)}{σ:List (Option V)}{H H':Hp}{s:Ac}{h':Heap}
theorem Cx.Ok.nofr (ok:X.Ok){b:Addr}{o:Obj}(e:X.base.get? b=some o):b∉X.fs:=λhb=>by
 have:=(ok.funs.mem hb).1
 rw[e] at this;cases this
theorem Inv.bs (I:Inv X pins σ H s):∀b o,X.base.get? b=some o->s.heap.get? b=some o/\H b=none:=λb o e =>
 ⟨I.base.keep b o (I.ok.bs b o e).1 (I.ok.bs b o e).2 (I.ok.nofr e) (I.ok.noex b o e),I.base.free b o (I.ok.bs b o e).1 (I.ok.bs b o e).2 (I.ok.noex b o e)⟩
theorem Inv.bk (I:Inv X pins σ H s):∀b o,X.base.get? b=some o->s.heap.get? b=some o:=λb o e=>(I.bs b o e).1
theorem Inv.mod (I:Inv X pins σ H s):Mod X.K X.mg X.base:=I.ok.mod
theorem Inv.kIn (I:Inv X pins σ H s):X.K.In s.heap:=I.ok.mod.kin.keeps I.bk
theorem Inv.lt (I:Inv X pins σ H s):X.env.locals<s.heap.objs.size:=let ⟨_,hn,_⟩:=I.loc;hn.lt
theorem Inv.sz (I:Inv X pins σ H s):X.s₀.heap.objs.size<=s.heap.objs.size:=A4 I.ok.above (DC I.lt)
theorem Inv.xO (I:Inv X pins σ H s){a:Addr}(h:s.heap.objs.size<=a):a∉X.fs:=λhb=>by
 obtain ⟨_,o,ho,_⟩:=I.ok.funs.mem hb
 exact absurd (Ax (An ho) (A4 I.sz h)) (A5 _)
theorem Inv.cne (I:Inv X pins σ H s):∀x c,X.env.cells.lookup x=some c->c≠X.env.locals:=λx c e z=>by
 obtain ⟨v,o,ho,hd⟩:=I.cell x c e
 obtain ⟨m,⟨o',es,ep,ho',hd',_⟩,_⟩:=I.loc
 rw[z,ho'] at ho;cases ho;rw[hd'] at hd;cases hd
theorem Inv.funs (I:Inv X pins σ H s):s.heap.FunFrames X.base X.outer:=by
 have all:∀(l:List Env),(∀b∈frs l,b∈X.fs)->X.s₀.heap.FunFrames X.base l->s.heap.FunFrames X.base l:=by
  intro l
  induction l with
  | nil=>intro _ _;trivial
  | cons env r ih =>
   intro hs hl
   obtain ⟨hk,⟨L,o,hf,hn,ho,hd⟩,hr⟩:=hl
   have hL:L∈X.fs:=hs L (by unfold frs;rw[EW,hf];exact AN)
   obtain ⟨sl,e⟩:=I.base.slot L o ho (I.ok.frf L hL) hL λz=>I.ok.exfs L z hL
   exact ⟨hk,⟨L,_,hf,hn,e,hd⟩,ih (λb hb=>hs b (by unfold frs;rw[EW,hf];exact AK _ hb)) hr⟩
 exact all X.outer (λ_ hb=>hb) I.ok.funs
theorem Inv.stack (I:Inv X pins σ H s):s.heap.FunFrames X.base X.stack:=by
 rcases I.ok.stk with e | ⟨e,hf⟩
 ·rw[e];exact I.funs
 ·rw[e]
  obtain ⟨m,hn,_⟩:=I.loc
  refine .cons (by rw[I.ok.kind];decide) hf hn ?_ I.funs
  exact Heap.get?_none_of_le (A4 I.ok.bsz I.ok.above)
theorem Inv.ma (I:Inv X pins σ H s):∀b∈frs X.stack,b∈X.env.locals :: X.fs:=λb hb=>by
 rcases I.ok.stk with e | ⟨e,hf⟩
 ·rw[e] at hb;exact AK _ hb
 ·rw[e] at hb
  unfold frs at hb
  rw[EW,hf] at hb
  exact hb
theorem Inv.qf (I:Inv X pins σ H s):∀b∈frs X.stack,H b=none:=λb hb=>by
 rcases AJ.mp (I.ma b hb) with e | hb
 ·rw[e];exact I.free
 ·obtain ⟨_,o,ho,_⟩:=I.ok.funs.mem hb
  exact I.base.free b o ho (I.ok.frf b hb) λz=>I.ok.exfs b z hb
theorem Inv.step {g':Array GenState}{t':Nat}{d':Drawn}{ch:List Addr}(I:Inv X pins σ H s)
  (hch:∀b∈ch,(b∈X.ex\/X.s₀.heap.objs.size<=b)/\b≠X.env.locals/\(∀x c,X.env.cells.lookup x=some c->c≠b)/\∀p∈X.pn++pins,p.1≠b)
  (keep:∀b o,b≠X.env.locals->b∉X.fs->b∉ch->s.heap.get? b=some o->H b=none->h'.get? b=some o)
  (slot:∀b o,b≠X.env.locals->b∈X.fs->b∉ch->s.heap.get? b=some o->H b=none->∃sl,h'.get? b=some { o with slots:=sl }) (free:∀b o,b∉ch->s.heap.get? b=some o->H b=none->H' b=none)
  (there:∀b o,b∉ch->s.heap.get? b=some o->∃o',h'.get? b=some o')
  (tups:∀b xs,H b=some (.tup xs)->H' b=some (.tup xs)) (frzs:∀b o u,H b=some (.frz o u)->H' b=some (.frz o u)) (tbls:∀b ps,H b=some (.tbl ps)->∃more,H' b=some (.tbl (ps++more)))
  (ns:∀m,s.heap.Ns X.env.locals m->h'.Ns X.env.locals m) (hok:HOk X.prog X.w H' h') (hg:AllBare g') :
  Inv X pins σ H' { s with heap:=h',gens:=g',drawn:=d',toks:=t' }:=by
 have neL:∀b o,X.s₀.heap.get? b=some o->b≠X.env.locals:=λb o e=>AD (Ax (An e) I.ok.above)
 have neC:∀b o,X.s₀.heap.get? b=some o->b∉X.ex->b∉ch:=λb o e hx hb=>by
  rcases (hch b hb).1 with z | z
  ·exact hx z
  ·exact absurd (Ax (An e) z) (A5 _)
 have cellK:∀x c,X.env.cells.lookup x=some c->∀v,s.heap.IsCell c v->h'.IsCell c v:=λx c e v ⟨o,ho,hd⟩=>by
  have nch:c∉ch:=λz=>(hch c z).2.2.1 x c e rfl
  by_cases hc:c∈X.fs
  ·obtain ⟨sl,q⟩:=slot c o (I.cne x c e) hc nch ho (I.freeC x c e)
   exact ⟨_,q,hd⟩
  ·exact ⟨o,keep c o (I.cne x c e) hc nch ho (I.freeC x c e),hd⟩
 refine ⟨I.ok,I.os,hg,⟨λb o e n hb hx =>?_,λb o e n hb hx =>?_,λb o e n hx =>?_,λb o e hx =>?_,λb xs e=>tups b xs (I.base.tups b xs e),λb o xs e=>frzs b o xs (I.base.frzs b o xs e),λb ps e =>?_⟩,?_,λx c e =>?_,?_,λx c e =>?_,λp hp =>?_,hok,I.len⟩
 ·exact keep b o (neL b o e) hb (neC b o e hx) (I.base.keep b o e n hb hx) (I.base.free b o e n hx)
 ·obtain ⟨sl,e1⟩:=I.base.slot b o e n hb hx
  obtain ⟨sl',e2⟩:=slot b _ (neL b o e) hb (neC b o e hx) e1 (I.base.free b o e n hx)
  exact ⟨sl',e2⟩
 ·obtain ⟨o',e1⟩:=I.base.there b o e hx
  exact free b o' (neC b o e hx) e1 (I.base.free b o e n hx)
 ·obtain ⟨o',e1⟩:=I.base.there b o e hx
  exact there b o' (neC b o e hx) e1
 ·obtain ⟨m1,e1⟩:=I.base.tbls b ps e
  obtain ⟨m2,e2⟩:=tbls b _ e1
  exact ⟨m1++m2,by rw[e2,Array.append_assoc]⟩
 ·obtain ⟨m,hn,hl⟩:=I.loc
  refine ⟨m,ns m hn,λi x v e1 e2 e3 =>?_⟩
  obtain ⟨u,r,l⟩:=hl i x v e1 e2 e3
  refine ⟨u,r,?_⟩
  rcases l with l | ⟨k,c,e,z⟩
  ·exact .inl l
  ·exact .inr ⟨k,c,e,cellK x c e _ z⟩
 ·obtain ⟨v,z⟩:=I.cell x c e
  exact ⟨v,cellK x c e v z⟩
 ·obtain ⟨m,⟨o,_,_,ho,_⟩,_⟩:=I.loc
  exact free _ o (λz=>(hch _ z).2.1 rfl) ho I.free
 ·obtain ⟨v,o,ho,hd⟩:=I.cell x c e
  exact free c o (λz=>(hch c z).2.2.1 x c e rfl) ho (I.freeC x c e)
 ·obtain ⟨e,n,ne,nf,d⟩:=I.pin p hp
  have nch:p.1∉ch:=λz=>(hch p.1 z).2.2.2 p hp rfl
  exact ⟨keep p.1 p.2 ne nf nch e n,free p.1 p.2 nch e n,ne,nf,d⟩
theorem Inv.un {t':Nat}(I:Inv X pins σ H s)(u:Un X.fs [] H H' s.heap h')(hok:HOk X.prog X.w H' h'):Inv X pins σ H' { s with heap:=h',toks:=t' }:=by
 obtain ⟨m,⟨o,es,ep,ho,r⟩,_⟩:=id I.loc
 obtain ⟨sl,hL⟩:=u.any ho I.free (by simp)
 exact I.step (g':=s.gens) (d':=s.drawn) (ch:=[]) (λ_ z=>nomatch z) (λb o _ hb _ e n=>u.keep b o e n hb (by simp)) (λb o _ hb _ e n=>u.slot b o e n hb (by simp)) (λb o _ e n=>u.free b o e n (by simp)) (λb o _ e=>u.there b o e (by simp)) u.tups u.frzs u.tbls (λm' hm=>by
  obtain ⟨o',es',ep',ho',r'⟩:=hm
  rw[ho] at ho';cases ho'
  exact ⟨_,es',ep',hL,r'⟩) hok I.bare
theorem Inv.call {g':Array GenState}{t':Nat}{d':Drawn}{ch:List Addr}(I:Inv X pins σ H s)(u:Un (frs X.stack) ch H H' s.heap h')(hok:HOk X.prog X.w H' h')(hg:AllBare g')
  (hch:∀b∈ch,(b∈X.ex\/X.s₀.heap.objs.size<=b)/\b≠X.env.locals/\(∀x c,X.env.cells.lookup x=some c->c≠b)/\∀p∈X.pn++pins,p.1≠b) :
  Inv X pins σ H' { s with heap:=h',gens:=g',drawn:=d',toks:=t' }:=by
 obtain ⟨m,⟨o,es,ep,ho,r⟩,_⟩:=id I.loc
 obtain ⟨sl,hL⟩:=u.any ho I.free λz=>(hch _ z).2.1 rfl
 exact I.step (ch:=ch) hch (λb o hL hb hc e n=>u.keep b o e n (λz=>(AJ.mp (I.ma b z)).elim hL hb) hc) (λb o _ _ hc e n=>u.any e n hc) (λb o hc e n=>u.free b o e n hc) (λb o hc e=>u.there b o e hc) u.tups u.frzs u.tbls (λm' hm=>by
  obtain ⟨o',es',ep',ho',r'⟩:=hm
  rw[ho] at ho';cases ho'
  exact ⟨_,es',ep',hL,r'⟩) hok hg
theorem Inv.turned {t':Nat}{it:Addr}(I:Inv X pins σ H s)(k:∀b o,b≠it->s.heap.get? b=some o->h'.get? b=some o)(hn:H it=none)(hL:it≠X.env.locals)
  (h1:it∈X.ex\/X.s₀.heap.objs.size<=it) (h2:∀x c,X.env.cells.lookup x=some c->c≠it) (h3:∀p∈X.pn++pins,p.1≠it):Inv X pins σ H { s with heap:=h',toks:=t' }:=by
 have nit:∀b u,H b=some u->b≠it:=λb u e z=>by rw[z,hn] at e;cases e
 refine I.step (g':=s.gens) (d':=s.drawn) (ch:=[it]) (λb hb =>?_) (λb o _ _ hc e _=>k b o (λz=>hc (by simp[z])) e) (λb o _ _ hc e _=>⟨o.slots,k b o (λz=>hc (by simp[z])) e⟩) (λ_ _ _ _ n=>n)
  (λb o hc e=>⟨o,k b o (λz=>hc (by simp[z])) e⟩) (λ_ _ e=>e) (λ_ _ _ e=>e) (λb ps e=>⟨#[],by rw[e];simp⟩) (λm hm =>?_) (λb u e =>?_) I.bare
 ·have e:b=it:=by simpa using hb
  subst e
  exact ⟨h1,hL,h2,h3⟩
 ·obtain ⟨o,es,ep,ho,r⟩:=hm
  exact ⟨o,es,ep,k _ o (B4 hL) ho,r⟩
 ·refine (I.hok b u e).stay (λc v hc q=>k c v ?_ q) (λ_ q=>q) λ_ _ q=>q
  rcases hc with z | z
  ·rw[z];exact nit b u e
  ·exact nit c _ z
theorem Inv.tok (I:Inv X pins σ H s)(t:Nat):Inv X pins σ H { s with toks:=t }:=I.un (h':=s.heap) (t':=t) Un.refl I.hok
theorem Inv.kept {t':Nat}(I:Inv X pins σ H s)(k:∀b u,s.heap.get? b=some u->h'.get? b=some u):Inv X pins σ H { s with heap:=h',toks:=t' }:=I.un (Un.kept k) (I.hok.kept k)
theorem Inv.laid {a:Addr}{o:HO}{t':Nat}(I:Inv X pins σ H s)(k:∀b u,s.heap.get? b=some u->h'.get? b=some u)(hp:s.heap.objs.size<=a)(new:a6 X.prog X.w (upd H a o) h' a o) :
  Inv X pins σ (upd H a o) { s with heap:=h',toks:=t' }:=I.un (Un.laid k hp (I.hok.fresh hp)) (I.hok.laid k hp new)
theorem Inv.write {x e:Addr}{o:HO}{t':Nat}(I:Inv X pins σ H s)(mu:Mut (H x))(he:e=x\/H e=some (.own x))(k:∀b u,b≠e->s.heap.get? b=some u->h'.get? b=some u)(heo:∃u,h'.get? e=some u)
  (new:a6 X.prog X.w (upd H x o) h' x o):Inv X pins σ (upd H x o) { s with heap:=h',toks:=t' }:=I.un (Un.write mu he k heo) (I.hok.write mu he k heo new)
theorem Inv.gD {pins':List (Addr×Obj)}(I:Inv X pins σ H s)(h:∀p∈pins',s.heap.get? p.1=some p.2/\H p.1=none/\p.1≠X.env.locals/\p.1∉X.fs/\∀v,p.2.data ≠ .cell v):Inv X pins' σ H s :=
 ⟨I.ok,I.os,I.bare,I.base,I.loc,I.cell,I.free,I.freeC,λp hp=>(As.mp hp).elim (λz=>I.pin p (CK _ z)) (h p),I.hok,I.len⟩
theorem nE {N:List Str}(hN:N.Nodup){i j:Nat}{x:Str}(a:N[i]? = some x)(b:N[j]? = some x):i=j:=by
 obtain ⟨h1,e1⟩:=Af.mp a
 obtain ⟨h2,e2⟩:=Af.mp b
 exact (List.getElem_inj hN).mp (e1.trans e2.symm)
theorem rE {M:Model}{A:Bd}{E:z9->Ac->Prop}{i:Nat}{x:Str}{v:V}{u:z9}{Q:Unit->Ac->Prop}(I:Inv X pins σ H s)(hN:X.N.Nodup)(hi:X.N[i]? = some x)(hx:Loc X.env.scope x)(r:RelV v u)
  (h:∀s',Inv X pins (σ.set i (some v)) H s'->(∃a,Heap.SameBut a s.heap s'.heap/\(a=X.env.locals\/X.env.cells.lookup x=some a))->Q () s') (hf:X.fn x=true\/X.env.scope.names.lookup x=some .local:=by first | exact .inl rfl | exact .inr rfl | assumption):AA M A (storeName X.env x u) Q E s:=by
 obtain ⟨m,hn,hl⟩:=id I.loc
 have hcls:(X.env.scope.kind == .class || (X.env.scope.kind == .module && X.env.locals != X.env.globals))=false:=by rw[I.ok.kind];rfl
 have hiσ:i<σ.length:=by rw[I.len];exact (Af.mp hi).1
 have cne:=I.cne
 have tracked:∀{a:Addr} {h':Heap},(∃o,s.heap.get? a=some o/\H a=none)->Heap.SameBut a s.heap h'->HOk X.prog X.w H h':=λ{a h'} ha hs b ob e=>by
  obtain ⟨_,_,hfree⟩:=ha
  refine (I.hok b ob e).stay (λc w' hc q=>(hs.2 c ?_).trans q) (λ_ q=>q) λ_ _ q=>q
  rintro rfl
  rcases hc with rfl | hc
  ·rw[hfree] at e;cases e
  ·rw[hfree] at hc;cases hc
 rcases hx with hk | hk
 ·refine wpAny_storeName_local hk hn (λh' hn' hs =>?_) hcls
  obtain ⟨oL,_,_,hoL,_⟩:=id hn
  refine h _ ⟨I.ok,I.os,I.bare,⟨λb o e n hb hx =>?_,λb o e n hb hx =>?_,I.base.free,λb o e hx =>?_,I.base.tups,I.base.frzs,I.base.tbls⟩,⟨_,hn',λj y v' e1 e2 e3 =>?_⟩,λy c e =>?_,I.free,I.freeC,λp hp =>?_,tracked ⟨oL,hoL,I.free⟩ hs,by simpa using I.len⟩ ⟨_,hs,.inl rfl⟩
  ·exact (hs.2 b (AD (Ax (An e) I.ok.above))).trans (I.base.keep b o e n hb hx)
  ·obtain ⟨sl,e1⟩:=I.base.slot b o e n hb hx
   exact ⟨sl,(hs.2 b (AD (Ax (An e) I.ok.above))).trans e1⟩
  ·obtain ⟨o',e1⟩:=I.base.there b o e hx
   exact ⟨o',(hs.2 b (AD (Ax (An e) I.ok.above))).trans e1⟩
  ·by_cases hj:j=i
   ·subst hj
    rw[hi] at e1;cases e1
    rw[Ct hiσ] at e2
    cases e2
    exact ⟨u,r,.inl ⟨hk,by simp⟩⟩
   ·rw[CL (B4 hj)] at e2
    obtain ⟨u',r',q⟩:=hl j y v' e1 e2 e3
    refine ⟨u',r',?_⟩
    rcases q with ⟨k,e⟩ | ⟨k,c,e,z⟩
    ·refine .inl ⟨k,?_⟩
     have:y≠x:=λe=>hj (nE hN e1 (e ▸ hi))
     simp[this,e]
    ·exact .inr ⟨k,c,e,z.sameBut hs (cne y c e)⟩
  ·obtain ⟨w',z⟩:=I.cell y c e
   exact ⟨w',z.sameBut hs (cne y c e)⟩
  ·obtain ⟨e,n,ne,nf,d⟩:=I.pin p hp
   exact ⟨(hs.2 p.1 ne).trans e,n,ne,nf,d⟩
 ·have hfn:X.fn x=true:=by
   rcases hf with z | z
   ·exact z
   ·rw[z] at hk;cases hk
  obtain ⟨c,hc⟩:=I.ok.has x (.inl hk)
  obtain ⟨w',z⟩:=I.cell x c hc
  refine wpAny_storeName_cell I.ok.kind hk hc z (λh' hc' hs =>?_)
  obtain ⟨oc,hoc,hocd⟩:=id z
  refine h { s with heap:=h' } ⟨I.ok,I.os,I.bare,⟨λb o e n hb hx =>?_,λb o e n hb hx =>?_,I.base.free,λb o e hx =>?_,I.base.tups,I.base.frzs,I.base.tbls⟩,⟨m,hn.sameBut hs (B4 (cne x c hc)),λj y v' e1 e2 e3 =>?_⟩,λy c' e =>?_,I.free,I.freeC,λp hp =>?_,tracked ⟨oc,hoc,I.freeC x c hc⟩ hs,by simpa using I.len⟩ ⟨c,hs,.inr hc⟩
  ·exact (hs.2 b (AD (Ax (An e) (I.ok.cab x c hfn hc)))).trans (I.base.keep b o e n hb hx)
  ·obtain ⟨sl,e1⟩:=I.base.slot b o e n hb hx
   exact ⟨sl,(hs.2 b (AD (Ax (An e) (I.ok.cab x c hfn hc)))).trans e1⟩
  ·obtain ⟨o',e1⟩:=I.base.there b o e hx
   exact ⟨o',(hs.2 b (AD (Ax (An e) (I.ok.cab x c hfn hc)))).trans e1⟩
  ·by_cases hj:j=i
   ·subst hj
    rw[hi] at e1;cases e1
    rw[Ct hiσ] at e2
    cases e2
    exact ⟨u,r,.inr ⟨.inl hk,c,hc,hc'⟩⟩
   ·rw[CL (B4 hj)] at e2
    obtain ⟨u',r',q⟩:=hl j y v' e1 e2 e3
    refine ⟨u',r',?_⟩
    rcases q with q | ⟨k,c',e,z'⟩
    ·exact .inl q
    ·refine .inr ⟨k,c',e,z'.sameBut hs ?_⟩
     rintro rfl
     exact hj (nE hN e1 (I.ok.inj _ _ _ e hc ▸ hi))
  ·by_cases hcc:c'=c
   ·subst hcc;exact ⟨_,hc'⟩
   ·obtain ⟨w2,z2⟩:=I.cell y c' e
    exact ⟨w2,z2.sameBut hs hcc⟩
  ·obtain ⟨e,n,ne,nf,d⟩:=I.pin p hp
   refine ⟨(hs.2 p.1 ?_).trans e,n,ne,nf,d⟩
   intro q
   rw[q,hoc] at e
   have q':oc=p.2:=AI e
   exact d w' (by rw[<- q'];exact hocd)
theorem gE {M:Model}{A:Bd}{E:z9->Ac->Prop}{i:Nat}{x:Str}{v:V}{u:z9}{Q:Unit->Ac->Prop}(I:Inv X pins σ H s)(hN:X.N.Nodup)(hi:X.N[i]? = some x)(hx:Loc X.env.scope x)(r:RelV v u)
  (h:∀s',Inv X pins (σ.set i (some v)) H s'->Q () s') (hf:X.fn x=true\/X.env.scope.names.lookup x=some .local:=by first | exact .inl rfl | exact .inr rfl | assumption):AA M A (storeName X.env x u) Q E s :=
 rE I hN hi hx r (λs' I' _=>h s' I') hf
theorem Inv.yY {s':Ac}{ch:List Addr}(I:Inv X pins σ H s)(ho:s'.os=s.os)(u:Un (frs X.stack) ch H H' s.heap s'.heap)(hok:HOk X.prog X.w H' s'.heap)(hg:AllBare s'.gens)
  (hch:∀b∈ch,(b∈X.ex\/X.s₀.heap.objs.size<=b)/\b≠X.env.locals/\(∀x c,X.env.cells.lookup x=some c->c≠b)/\∀p∈X.pn++pins,p.1≠b):Inv X pins σ H' s':=by
 obtain ⟨h',g',d',t',o'⟩:=s'
 have e:o'=s.os:=ho
 subst e
 exact I.call (g':=g') (t':=t') (d':=d') u hok hg hch
end
abbrev XK:=z9->Option Addr->Hp->Prop
abbrev St:=List (Option V)
abbrev VK:=V->Hp->Prop
abbrev TE:=St->Hp->VK->Prop
abbrev TT:=St->Hp->(Bool->Hp->Prop)->Prop
abbrev TA:=St->Hp->(List V->Hp->Prop)->Prop
structure Ends where
 nx:St->Hp->Prop
 rt:VK
 bk:St->Hp->Prop:=λ_ _=>False
 ct:St->Hp->Prop:=λ_ _=>False
abbrev TS:=Ends->St->Hp->Prop
def EP (X:Cx)(pins:List (Addr×Obj))(σ:St)(Q:VK)(u:z9)(s':Ac):Prop:=∃v H',Inv X pins σ H' s'/\RelV v u/\Q v H'
def TP (X:Cx)(pins:List (Addr×Obj))(σ:St)(Q:Bool->Hp->Prop)(b:Bool)(s':Ac):Prop:=∃H',Inv X pins σ H' s'/\Q b H'
def AP (X:Cx)(pins:List (Addr×Obj))(σ:St)(Q:List V->Hp->Prop)(us:List z9)(s':Ac):Prop:=∃vs H',Inv X pins σ H' s'/\Vals vs us/\Q vs H'
def SP (X:Cx)(pins:List (Addr×Obj))(D:Ends)(f:Flow)(s':Ac):Prop :=
 match f with
 | .next=>∃σ' H',Inv X pins σ' H' s'/\D.nx σ' H'
 | .brk=>∃σ' H',Inv X pins σ' H' s'/\D.bk σ' H'
 | .cont=>∃σ' H',Inv X pins σ' H' s'/\D.ct σ' H'
 | .ret u=>∃v σ' H',Inv X pins σ' H' s'/\RelV v u/\D.rt v H'
def PE (X:Cx)(e:Expr)(t:TE):Prop :=
 ∀(pins:List (Addr×Obj)) (s:Ac) (σ:St) (H:Hp) (Q:VK),Inv X pins σ H s->t σ H Q->AA (AM X.prog X.w) X.A (eval e X.env) (EP X pins σ Q) X.xe s
def PT (X:Cx)(e:Expr)(t:TT):Prop :=
 ∀(pins:List (Addr×Obj)) (s:Ac) (σ:St) (H:Hp) (Q:Bool->Hp->Prop),Inv X pins σ H s->t σ H Q->AA (AM X.prog X.w) X.A (isTrue e X.env (eval e X.env)) (TP X pins σ Q) X.xe s
def PW (X:Cx)(e:Expr)(t:TT):Prop :=
 ∀(whole:Sem z9) (pins:List (Addr×Obj)) (s:Ac) (σ:St) (H:Hp) (Q:Bool->Hp->Prop),Inv X pins σ H s->t σ H Q->AA (AM X.prog X.w) X.A (isTrue e X.env whole) (TP X pins σ Q) X.xe s
theorem PW.pt {X:Cx}{e:Expr}{t:TT}(h:PW X e t):PT X e t:=h _
def PA (X:Cx)(es:List Expr)(t:TA):Prop :=
 ∀(pos:Pos) (pins:List (Addr×Obj)) (s:Ac) (σ:St) (H:Hp) (Q:List V->Hp->Prop),Inv X pins σ H s->t σ H Q->AA (AM X.prog X.w) X.A (spliced (Ez pos (Bt es X.env))) (AP X pins σ Q) X.xe s
def PS (X:Cx)(st:Stmt)(t:TS):Prop :=
 ∀(pins:List (Addr×Obj)) (s:Ac) (σ:St) (H:Hp) (D:Ends),Inv X pins σ H s->t D σ H->AA (AM X.prog X.w) X.A (exec st X.env) (SP X pins D) X.xe s
def PSs (X:Cx)(st:List Stmt)(t:TS):Prop :=
 ∀(pins:List (Addr×Obj)) (s:Ac) (σ:St) (H:Hp) (D:Ends),Inv X pins σ H s->t D σ H->AA (AM X.prog X.w) X.A (execs st X.env) (SP X pins D) X.xe s
theorem thn {α:Type}{t:Sem α}{Q Q':α -> Ac->Prop}{M:Model}{A:Bd}{E:z9->Ac->Prop}{s:Ac}(h:AA M A t Q E s)(hQ:∀a s,Q a s->Q' a s):AA M A t Q' E s:=Cz h hQ λ_ _ x=>x
open PySem PySem.Spec PyProof.Rows
section
variable  {X:Cx}
theorem bin {a b:Expr}{ta tb:TE}(ha:PE X a ta)(hb:PE X b tb){pins:List (Addr×Obj)}{s:Ac}{σ:St}{H:Hp}{R:V->V->Hp->Prop}(I:Inv X pins σ H s)(h:ta σ H λx H1=>tb σ H1 λy H2=>R x y H2)
  {α:Type} {Q:α -> Ac->Prop} {f:z9->z9->Sem α}
  (hf:∀v u s2 x y H2,Inv X pins σ H2 s2->RelV x v->RelV y u->R x y H2->AA (AM X.prog X.w) X.A (f v u) Q X.xe s2) :
  AA (AM X.prog X.w) X.A (eval a X.env) (λv s₁=>AA (AM X.prog X.w) X.A (eval b X.env) (λu s₂=>AA (AM X.prog X.w) X.A (f v u) Q X.xe s₂) X.xe s₁) X.xe s:=by
 refine thn (ha pins s σ H _ I h) λv s1 ⟨x,H1,I1,r1,q1⟩ =>?_
 refine thn (hb pins s1 σ H1 _ I1 q1) λu s2 ⟨y,H2,I2,r2,q2⟩ =>?_
 exact hf v u s2 x y H2 I2 r1 r2 q2
def yZ (i:Nat):TE:=λσ H Q=>∃v,σ[i]? = some (some v)/\Q v H
def tC (v:V):TE:=λ_ H Q=>Q v H
theorem xP {i:Nat}{x:Str}{pos:Pos}(hN:X.N[i]? = some x)(hv:Vis X.env.scope x)(hd:(x == ("__debug__" : Str))=false:=by decide)(hcd:(x == ("__classdict__" : Str))=false:=by decide):PE X (.Name x pos) (yZ i):=by
 intro pins s σ H Q I h
 obtain ⟨v,e,h⟩:=h
 obtain ⟨m,hn,hl⟩:=I.loc
 obtain ⟨u,r,l⟩:=hl i x v hN e hv
 have fin:EP X pins σ Q u s:=⟨v,H,I,r,h⟩
 rcases l with ⟨hk,hm⟩ | ⟨hk,c,hc,hcell⟩
 ·exact HP (wpAny_loadName_local I.ok.kind hk hn hm fin) hd
 ·rcases hk with hk | hk
  ·exact HP (wpAny_loadName_cell I.ok.kind hk hc hcell fin) hd
  ·exact HP (wpAny_loadName_free I.ok.kind hk hc hcell fin hcd) hd
theorem ae {i j pos}:PE X (.Constant (.int i) j pos) (tC (.int i)):=λ_ _ _ H _ I h=>wpAny_Constant_int ⟨.int i,H,I.tok _,⟨_,rfl⟩,h⟩
theorem xq {b j pos}:PE X (.Constant (.bool b) j pos) (tC (.bl b)):=λ_ _ _ H _ I h=>Constant_bool ⟨.bl b,H,I,rfl,h⟩
theorem dJ {j pos}:PE X (.Constant .none j pos) (tC .non):=λ_ _ _ H _ I h=>Constant_none ⟨.non,H,I,rfl,h⟩
theorem eE {x j pos}:PE X (.Constant (.str x) j pos) (tC (.str x)):=λ_ _ _ H _ I h=>Calls.Constant_str ⟨.str x,H,I.tok _,⟨_,rfl⟩,h⟩
def Gl (X:Cx)(x:Str):Prop:=X.env.kindOf x=some .globalImplicit
theorem qg {E:z9->Ac->Prop}{pins:List (Addr×Obj)}{s:Ac}{σ:St}{H:Hp}{x:Str}{u:z9}{pos:Pos}{Q:z9->Ac->Prop}(I:Inv X pins σ H s)(hg:Gl X x)(hm:X.mg x=some u)(h:Q u s)
  (hd:(x == ("__debug__" : Str))=false:=by decide):AA (AM X.prog X.w) X.A (eval (.Name x pos) X.env) Q E s :=
 E2 I.ok.kind hg (Calls.loadGlobal_global (by rw[I.ok.glob];exact I.mod.glob.keeps I.bk) hm h) hd
theorem eF {E:z9->Ac->Prop}{pins:List (Addr×Obj)}{s:Ac}{σ:St}{H:Hp}{x:Str}{u:z9}{pos:Pos}{Q:z9->Ac->Prop}(I:Inv X pins σ H s)(hg:Gl X x)(hm:X.mg x=none)(hv:Bz x=some u)(h:Q u s)
  (hn:x ≠ "__name__" := by decide) (hd:(x == ("__debug__" : Str))=false:=by decide):AA (AM X.prog X.w) X.A (eval (.Name x pos) X.env) Q E s:=by
 obtain ⟨mb,h1,h2⟩:=I.mod.blt
 exact E2 I.ok.kind hg (Calls.loadGlobal_builtin (by rw[I.ok.glob];exact I.mod.glob.keeps I.bk) hm (by rw[I.ok.blt];exact h1.keeps I.bk) ((h2 x hn).trans hv) h) hd
theorem vE {x:Str}{v:V}{u:z9}{pos:Pos}(hg:Gl X x)(hm:X.mg x=some u)(r:RelV v u)(hd:(x == ("__debug__" : Str))=false:=by decide):PE X (.Name x pos) (tC v) :=
 λ_ _ _ H _ I h=>qg I hg hm ⟨v,H,I,r,h⟩ hd
theorem iY {x:Str}{v:V}{u:z9}{pos:Pos}(hg:Gl X x)(hm:X.mg x=none)(hv:Bz x=some u)(r:RelV v u)(hn:x ≠ "__name__" := by decide)(hd:(x == ("__debug__" : Str))=false:=by decide):PE X (.Name x pos) (tC v) :=
 λ_ _ _ H _ I h=>eF I hg hm hv ⟨v,H,I,r,h⟩ hn hd
variable  {a b:Expr}{ta tb:TE}{pos:Pos}
def PC (X:Cx)(op:CmpOp)(a b:Expr)(t:TE):Prop :=
 ∀(pins:List (Addr×Obj)) (s:Ac) (σ:St) (H:Hp) (Q:VK),Inv X pins σ H s->t σ H Q →
  AA (AM X.prog X.w) X.A (eval a X.env) (λv s₁=>AA (AM X.prog X.w) X.A (eval b X.env) (λu s₂=>AA (AM X.prog X.w) X.A (BQ op v u) (EP X pins σ Q) X.xe s₂) X.xe s₁) X.xe s
theorem tj (b:Expr){op:CmpOp}(h:op ≠ .In)(h2:op ≠ .NotIn):behindInMarks op b=false:=by
 have e1:(op == CmpOp.In)=false:=by cases op <;> first | rfl | exact absurd rfl h
 have e2:(op == CmpOp.NotIn)=false:=by cases op <;> first | rfl | exact absurd rfl h2
 cases b <;> simp[behindInMarks,e1,e2]
def tB (t:TE):TT:=λσ H Q=>t σ H λx H1=>∃c,x = .bl c/\Q c H1
theorem dM {op:CmpOp}{t:TE}(h:PC X op a b t)(h1:behindInMarks op b=false:=by first | exact tj _ (by decide) (by decide) | rfl):PT X (.Compare a [op] [b] pos) (tB t):=by
 intro pins s σ H Q I hw
 refine F2 (thn (h pins s σ H _ I hw) λv s1 h1=>thn h1 λu s2 h2=>thn h2 λc s3 ⟨x,H1,I1,r1,q1⟩ =>?_) h1
 obtain ⟨d,rfl,q⟩:=q1
 cases r1
 exact B1 ⟨H1,I1,q⟩
theorem hJ {e:Expr}{t:TE}(h:PE X e t)(he:∀whole,isTrue e X.env whole=(do let v ← whole;standAt e.pos;EM [v] (truthy v)):=by intro _;rfl):PT X e (tB t):=by
  intro pins s σ H Q I hw
  refine isTrue_plain (thn (h pins s σ H _ I hw) λv s1 ⟨x,H1,I1,r1,q1⟩ =>?_) (he _)
  obtain ⟨d,rfl,q⟩:=q1
  cases r1
  exact B1 ⟨H1,I1,q⟩
variable  {tA tB':TT}{rest:List Expr}
def tAnd (t u:TT):TT:=λσ H Q=>t σ H λc H1=>if c=true then u σ H1 Q else Q false H1
def tOr (t u:TT):TT:=λσ H Q=>t σ H λc H1=>if c=true then Q true H1 else u σ H1 Q
def tNot (t:TT):TT:=λσ H Q=>t σ H λc H1=>Q (!c) H1
theorem bN (ha:PT X a tA):PW X (.BoolOp .And [a] pos) tA:=by
 intro wh pins s σ H Q I h
 refine isTrue_and (thn (ha pins s σ H Q I h) λc s1 e =>?_)
 cases c with
 | true=>exact isTrue_and_nil e
 | false=>exact e
theorem hV (ha:PT X a tA):PW X (.BoolOp .Or [a] pos) tA:=by
 intro wh pins s σ H Q I h
 refine isTrue_or (thn (ha pins s σ H Q I h) λc s1 e =>?_)
 cases c with
 | false=>exact isTrue_or_nil e
 | true=>exact e
theorem cq (ha:PT X a tA)(hb:PW X (.BoolOp .And (b :: rest) pos) tB'):PW X (.BoolOp .And (a :: b :: rest) pos) (tAnd tA tB'):=by
 intro wh pins s σ H Q I h
 refine isTrue_and (thn (ha pins s σ H _ I h) λc s1 ⟨H1,I1,q1⟩ =>?_)
 cases c with
 | true=>exact hb wh pins s1 σ H1 Q I1 q1
 | false=>exact ⟨H1,I1,q1⟩
theorem iL (ha:PT X a tA)(hb:PW X (.BoolOp .Or (b :: rest) pos) tB'):PW X (.BoolOp .Or (a :: b :: rest) pos) (tOr tA tB'):=by
 intro wh pins s σ H Q I h
 refine isTrue_or (thn (ha pins s σ H _ I h) λc s1 ⟨H1,I1,q1⟩ =>?_)
 cases c with
 | true=>exact ⟨H1,I1,q1⟩
 | false=>exact hb wh pins s1 σ H1 Q I1 q1
theorem hW (ha:PT X a tA):PT X (.UnaryOp .Not a pos) (tNot tA):=by
 intro pins s σ H Q I h
 exact isTrue_not (ha pins s σ H (λc H1=>Q (!c) H1) I h)
def y3 (ta tb:TE):TE:=λσ H Q=>ta σ H λx H1=>∃c,x = .bl c/\if c=true then tb σ H1 Q else Q (.bl false) H1
def y6 (ta:TE):TE:=λσ H Q=>ta σ H λx H1=>∃c,x = .bl c/\Q (.bl (!c)) H1
theorem tm {op}{t:TE}(h:PE X a t):PE X (.BoolOp op [a] pos) t:=λpins s σ H Q I hw=>BoolOp_one (h pins s σ H Q I hw)
theorem tq (ha:PE X a ta)(hb:PE X (.BoolOp .And (b :: rest) pos) tb):PE X (.BoolOp .And (a :: b :: rest) pos) (y3 ta tb):=by
 intro pins s σ H Q I h
 refine BoolOp_and (thn (ha pins s σ H _ I h) λv s1 ⟨x,H1,I1,r1,q1⟩ =>?_)
 obtain ⟨c,rfl,q1⟩:=q1
 cases r1
 refine B1 ?_
 cases c with
 | true=>exact hb pins s1 σ H1 Q I1 q1
 | false=>exact ⟨.bl false,H1,I1,rfl,q1⟩
theorem xQ (ha:PE X a ta):PE X (.UnaryOp .Not a pos) (y6 ta):=by
 intro pins s σ H Q I h
 refine UnaryOp_ (thn (ha pins s σ H _ I h) λv s1 ⟨x,H1,I1,r1,q1⟩ =>?_)
 obtain ⟨c,rfl,q1⟩:=q1
 cases r1
 exact not_of (B1 ⟨.bl (!c),H1,I1,rfl,q1⟩)
end
open PySem PySem.Spec PyProof.Rows
def SqL (K:z8)(H:Hp)(a:Addr)(xs:List V):Prop :=
 Rd H a (.lst xs) ∨
  ∃(o:Obj) (its:Array z9) (n:Nat),K.lookup a=some o/\o.cls = .type "list" /\ o.dict=none/\o.data = .seq its n/\its.size<=Ao/\Vals xs its.toList
def SqT (K:z8)(H:Hp)(a:Addr)(xs:List V):Prop :=
 Rd H a (.tup xs) ∨
  ∃(o:Obj) (its:Array z9) (n:Nat),K.lookup a=some o/\o.cls = .type "tuple" /\ o.data = .seq its n/\its.size<=Ao/\Vals xs its.toList
def absV:z9->Option V
 | .none=>some .non
 | .bool b=>some (.bl b)
 | .int i _=>some (.int i)
 | .str x _=>some (.str x)
 | .bytes b _=>some (.byt b)
 | .float b _=>some (.flt b)
 | .ref a=>some (.ref a)
 | .type n=>some (.ty n)
 | _=>none
theorem RelV.abs {x:V}{u:z9}(r:RelV x u):absV u=some x:=by
 cases x with
 | non=>cases r;rfl
 | bl _=>cases r;rfl
 | int _=>obtain ⟨t,rfl⟩:=r;rfl
 | str _=>obtain ⟨t,rfl⟩:=r;rfl
 | byt _=>obtain ⟨t,rfl⟩:=r;rfl
 | flt _=>obtain ⟨t,rfl⟩:=r;rfl
 | ref _=>cases r;rfl
 | ty _=>cases r;rfl
theorem RelV.inj {x y:V}{u:z9}(r:RelV x u)(q:RelV y u):x=y:=AI (r.abs.symm.trans q.abs)
theorem Vals.inj:∀{xs ys:List V} {us:List z9},Vals xs us->Vals ys us->xs=ys
 | _,_,_,.nil,.nil=>rfl
 | _,_,_,.cons r t,.cons r' t'=>by rw[r.inj r',Vals.inj t t']
section
variable  {X:Cx}{pins:List (Addr×Obj)}{σ:St}{H:Hp}{s:Ac}{a:Addr}{xs ys:List V}
theorem SqL.of {K:z8}(h:H a=some (.lst xs)):SqL K H a xs :=.inl (.inl h)
theorem SqT.of {K:z8}(h:H a=some (.tup xs)):SqT K H a xs :=.inl (.inl h)
theorem Inv.list (I:Inv X pins σ H s)(h:SqL X.K H a xs):∃its:List z9,Vals xs its/\PlainL s.heap a its.toArray/\xs.length<=Ao:=by
 rcases h with h | ⟨o,its,n,hk,hc,hd,hs,hz,r⟩
 ·obtain ⟨z,its,n,r,e⟩:=h.ok I.hok
  exact ⟨its,r,⟨_,n,e,rfl,rfl,rfl⟩,z⟩
 ·refine ⟨its.toList,r,⟨o,n,I.kIn a o hk,hc,hd,by simpa using hs⟩,?_⟩
  have e:=r.length
  simp only[Ai] at e
  lia
theorem Inv.tuple (I:Inv X pins σ H s)(h:SqT X.K H a xs):∃its:List z9,Vals xs its/\IsTup s.heap a its.toArray/\xs.length<=Ao:=by
 rcases h with h | ⟨o,its,n,hk,hc,hs,hz,r⟩
 ·obtain ⟨z,its,r,p⟩:=h.ok I.hok
  exact ⟨its,r,p.tup,z⟩
 ·refine ⟨its.toList,r,⟨o,I.kIn a o hk,hc,n,by simpa using hs⟩,?_⟩
  have e:=r.length
  simp only[Ai] at e
  lia
theorem Inv.tD (I:Inv X pins σ H s)(h:SqL X.K H a xs)(h':SqL X.K H a ys):xs=ys:=by
 obtain ⟨its,r,⟨o,n,e,_,_,d⟩,_⟩:=I.list h
 obtain ⟨its',r',⟨o',n',e',_,_,d'⟩,_⟩:=I.list h'
 rw[e] at e';cases e'
 rw[d] at d'
 injection d' with d1 _
 have:its=its':=by simpa using congrArg Array.toList d1
 subst this
 exact r.inj r'
theorem Inv.kK (I:Inv X pins σ H s)(h:SqT X.K H a xs)(h':SqT X.K H a ys):xs=ys:=by
 obtain ⟨its,r,⟨o,e,_,n,d⟩,_⟩:=I.tuple h
 obtain ⟨its',r',⟨o',e',_,n',d'⟩,_⟩:=I.tuple h'
 rw[e] at e';cases e'
 rw[d] at d'
 injection d' with d1 _
 have:its=its':=by simpa using congrArg Array.toList d1
 subst this
 exact r.inj r'
end
abbrev Cx.ki (X:Cx)(E:z9->Ac->Prop):Cx:={ X with xe:=E }
abbrev Cx.nox (X:Cx):Cx:=X.ki λ_ _=>False
theorem Cx.Ok.ki {X:Cx}(ok:X.Ok)(E:z9->Ac->Prop):(X.ki E).Ok :=
 ⟨ok.mod,ok.kind,ok.glob,ok.blt,ok.above,ok.inj,ok.has,ok.cab,ok.hd,ok.frames,ok.stk,ok.exf,ok.bs,ok.bsz,ok.noex,ok.exfs,ok.funs,ok.frf⟩
theorem Cx.Ok.eG {X:Cx}{E:z9->Ac->Prop}(ok:(X.ki E).Ok):X.Ok :=
 ⟨ok.mod,ok.kind,ok.glob,ok.blt,ok.above,ok.inj,ok.has,ok.cab,ok.hd,ok.frames,ok.stk,ok.exf,ok.bs,ok.bsz,ok.noex,ok.exfs,ok.funs,ok.frf⟩
section
variable  {X:Cx}{pins:List (Addr×Obj)}{σ:St}{H:Hp}{s:Ac}{E:z9->Ac->Prop}
theorem Inv.ki (I:Inv X pins σ H s)(E:z9->Ac->Prop):Inv (X.ki E) pins σ H s:=⟨I.ok.ki E,I.os,I.bare,I.base,I.loc,I.cell,I.free,I.freeC,I.pin,I.hok,I.len⟩
theorem Inv.eG (I:Inv (X.ki E) pins σ H s):Inv X pins σ H s:=⟨I.ok.eG,I.os,I.bare,I.base,I.loc,I.cell,I.free,I.freeC,I.pin,I.hok,I.len⟩
theorem SP.eG {D:Ends}{f:Flow}{s':Ac}(h:SP (X.ki E) pins D f s'):SP X pins D f s':=by
 cases f with
 | next=>obtain ⟨σ',H',I,q⟩:=h;exact ⟨σ',H',I.eG,q⟩
 | brk=>obtain ⟨σ',H',I,q⟩:=h;exact ⟨σ',H',I.eG,q⟩
 | cont=>obtain ⟨σ',H',I,q⟩:=h;exact ⟨σ',H',I.eG,q⟩
 | ret u=>obtain ⟨v,σ',H',I,r,q⟩:=h;exact ⟨v,σ',H',I.eG,r,q⟩
theorem PSs.nox {st:List Stmt}{t:TS}(h:PSs X.nox st t):PSs X st t:=λpins s σ H D I hw =>
 Cz (h pins s σ H D (I.ki _) hw) (λ_ _ q=>q.eG) λ_ _ z=>False.elim z
end
section
variable  {X:Cx}{st:Stmt}{rest:List Stmt}{t u:TS}{e:Expr}{te:TE}{pos:Pos}
def y7:TS:=λD σ H=>D.nx σ H
def tSeq (t u:TS):TS:=λD σ H=>t { D with nx:=u D } σ H
theorem aM:PSs X [] y7:=λ_ _ σ H _ I h=>EZ ⟨σ,H,I,h⟩
theorem ag (h1:PS X st t)(h2:PSs X rest u):PSs X (st :: rest) (tSeq t u):=by
 intro pins s σ H D I h
 refine wpAny_execs_cons (thn (h1 pins s σ H { D with nx:=u D } I h) λf s1 q =>?_)
 cases f with
 | next =>
  obtain ⟨σ',H',I',q⟩:=q
  exact h2 pins s1 σ' H' D I' q
 | ret v=>exact q
 | brk=>exact q
 | cont=>exact q
theorem aj (h1:PS X st t):PSs X [st] t:=by
 intro pins s σ H D I h
 refine wpAny_execs_cons (thn (h1 pins s σ H D I h) λf s1 q =>?_)
 cases f with
 | next=>exact EZ q
 | ret v=>exact q
 | brk=>exact q
 | cont=>exact q
theorem Inv.quiet {pins:List (Addr×Obj)}{σ:St}{H:Hp}{s:Ac}(I:Inv X pins σ H s):interactive X.env=false:=by simp[interactive,I.ok.kind]
def y8 (te:TE):TS:=λD σ H=>te σ H λ_ H1=>D.nx σ H1
theorem cc (he:PE X e te)(hs:swapsWith e none pos.line X.env=pure false:=by rfl):PS X (.Expr e pos) (y8 te):=by
 intro pins s σ H D I h
 exact wpAny_Expr_any (thn (he pins s σ H _ I h) λv s1 ⟨x,H1,I1,r1,q1⟩=>⟨σ,H1,I1,q1⟩) I.quiet hs
def tRet (te:TE):TS:=λD σ H=>te σ H D.rt
theorem aF (he:PE X e te):PS X (.Return (some e) pos) (tRet te):=by
 intro pins s σ H D I h
 exact wpAny_Return_some (thn (he pins s σ H _ I h) λv s1 ⟨x,H1,I1,r1,q1⟩=>⟨x,σ,H1,I1,r1,q1⟩)
def tIfS (c:TT)(t u:TS):TS:=λD σ H=>c σ H λb H1=>if b=true then t D σ H1 else u D σ H1
theorem aZ {c:Expr}{a b:List Stmt}{tc:TT}(hc:PT X c tc)(ha:PSs X a t)(hb:PSs X b u):PS X (.If c a b pos) (tIfS tc t u):=by
 intro pins s σ H D I h
 refine wpAny_If (thn (hc pins s σ H _ I h) λd s1 ⟨H1,I1,q1⟩ =>?_)
 cases d with
 | true=>exact ha pins s1 σ H1 D I1 q1
 | false=>exact hb pins s1 σ H1 D I1 q1
def xR:TS:=λ_ _ _=>False
theorem hX {sts:List Stmt}:PSs X sts xR:=λ_ _ _ _ _ _ h=>h.elim
end
abbrev TG:=V->St->Hp->(St->Hp->Prop)->Prop
abbrev TGs:=List V->St->Hp->(St->Hp->Prop)->Prop
def PG (X:Cx)(target:Expr)(t:TG):Prop :=
 ∀(pins:List (Addr×Obj)) (s:Ac) (σ:St) (H:Hp) (v:V) (u:z9) (Q:St->Hp->Prop),Inv X pins σ H s->RelV v u->t v σ H Q →
  AA (AM X.prog X.w) X.A (assign target X.env u) (λ_ s'=>∃σ' H',Inv X pins σ' H' s'/\Q σ' H') X.xe s
def PGs (X:Cx)(ts:List Expr)(t:TGs):Prop :=
 ∀(pins:List (Addr×Obj)) (s:Ac) (σ:St) (H:Hp) (vs:List V) (us:List z9) (Q:St->Hp->Prop),Inv X pins σ H s->Vals vs us->t vs σ H Q →
  AA (AM X.prog X.w) X.A (assignInOrder ((assignEach ts X.env).map (·.2)) us) (λ_ s'=>∃σ' H',Inv X pins σ' H' s'/\Q σ' H') X.xe s
abbrev tE:=V->V->V->Hp->(Hp->Prop)->Prop
def xS (X:Cx)(t:tE):Prop :=
 ∀(pins:List (Addr×Obj)) (s:Ac) (σ:St) (H:Hp) (o i v:V) (ov iv u:z9) (Q:Hp->Prop),Inv X pins σ H s->RelV o ov->RelV i iv->RelV v u->t o i v H Q →
  AA (AM X.prog X.w) X.A (setItem ov iv u) (λ_ s'=>∃H',Inv X pins σ H' s'/\Q H') X.xe s
abbrev TIp:=V->V->Hp->VK->Prop
def PIp (X:Cx)(op:Operator)(t:TIp):Prop :=
 ∀(pins:List (Addr×Obj)) (s:Ac) (σ:St) (H:Hp) (x y:V) (v u:z9) (Q:VK),Inv X pins σ H s->RelV x v->RelV y u->t x y H Q →
  AA (AM X.prog X.w) X.A (inplaceOp op v u) (EP X pins σ Q) X.xe s
section
variable  {X:Cx}{pos:Pos}
def kM (i:Nat):TG:=λv σ H Q=>Q (σ.set i (some v)) H
theorem aH {i:Nat}{x:Str}(hN:X.N.Nodup)(hi:X.N[i]? = some x)(hx:Loc X.env.scope x)(hf:X.fn x=true\/X.env.scope.names.lookup x=some .local:=by first | exact .inl rfl | exact .inr rfl | assumption):PG X (.Name x pos) (kM i):=by
 intro pins s σ H v u Q I r h
 exact wpAny_assign_Name (gE I hN hi hx r (λs' I'=>⟨_,H,I',h⟩) hf)
def gNil:TGs:=λvs σ H Q=>vs=[]/\Q σ H
def y9 (t:TG)(u:TGs):TGs:=λvs σ H Q=>∃v r,vs=v :: r/\t v σ H λσ' H'=>u r σ' H' Q
theorem me:PGs X [] gNil:=by
 intro pins s σ H vs us Q I r h
 obtain ⟨e,h⟩:=h
 subst e
 cases r
 exact G8 ⟨σ,H,I,h⟩
theorem cE {e:Expr}{es:List Expr}{t:TG}{u:TGs}(h1:PG X e t)(h2:PGs X es u)
  (hs:(assignEach (e :: es) X.env).map (·.2)=assign e X.env :: (assignEach es X.env).map (·.2):=by rfl):PGs X (e :: es) (y9 t u):=by
 intro pins s σ H vs us Q I r h
 obtain ⟨v,vr,e1,h⟩:=h
 subst e1
 cases r with
 | cons r rr =>
  rw[hs]
  refine Fb (thn (h1 pins s σ H _ _ _ I r h) λ_ s1 ⟨σ1,H1,I1,q1⟩ =>?_)
  exact h2 pins s1 σ1 H1 _ _ Q I1 rr q1
def gTup (K:z8)(n:Nat)(t:TGs):TG:=λv σ H Q=>∃a xs,v = .ref a/\SqT K H a xs/\xs.length=n/\t xs σ H Q
theorem oV {es:List Expr}{k:Nat}{t:TGs}{n:Nat}(hc:X.calm=true)(h:PGs X es t)
  (hn:(assignEach es X.env).length=n:=by rfl) (hst:(assignEach es X.env).findIdx? (·.1)=none:=by rfl):PG X (.Tuple es k pos) (gTup X.K n t):=by
 intro pins s σ H v u Q I r hw
 obtain ⟨a,xs,e1,hq,hl,hw⟩:=hw
 subst e1
 cases r
 obtain ⟨its,rv,ht,hz⟩:=I.tuple hq
 refine assign_Tuple_tuple (I.ok.hd hc) ht (by simp[hn, <- hl,rv.length]) hst λh' hx =>?_
 have I1:Inv X pins σ H { s with heap:=h' }:=I.kept (t':=s.toks) λb o e=>hx b o (AD (An e)) e
 exact h pins _ σ H xs _ Q I1 (by simpa using rv) hw
def gSub (to ti:TE)(t:tE):TG:=λv σ H Q=>to σ H λo H1=>ti σ H1 λi H2=>t o i v H2 λH3=>Q σ H3
theorem mf {o i:Expr}{to ti:TE}{t:tE}(ho:PE X o to)(hi:PE X i ti)(hs:xS X t)
    (ha:∀v,assign (.Subscript o i pos) X.env v=(do
      let ov ← EM [v] (eval o X.env)
      let iv ← EM [v,ov] (eval i X.env)
      standAt pos
      EM [v,ov,iv] (setItem ov iv v)
      release [v,ov,iv] []):=by intro _;rfl):PG X (.Subscript o i pos) (gSub to ti t):=by
  intro pins s σ H v u Q I r h
  rw[ha]
  refine zY (Bw (thn (ho pins s σ H _ I h) λov s1 ⟨x,H1,I1,r1,q1⟩ =>?_))
  refine zY (Bw (thn (hi pins s1 σ H1 _ I1 q1) λiv s2 ⟨y,H2,I2,r2,q2⟩ =>?_))
  refine zY (Et (zY (Bw (thn (hs pins s2 σ H2 x y v ov iv u _ I2 r1 r2 r q2) λ_ s3 ⟨H3,I3,q3⟩ =>?_))))
  exact wpAny_release ⟨σ,H3,I3,q3⟩
def xT (te:TE)(g:TG):TS:=λD σ H=>te σ H λx H1=>g x σ H1 D.nx
theorem f9 {tg e:Expr}{te:TE}{g:TG}(he:PE X e te)(hg:PG X tg g)(hs:swapsWithSole [tg] e pos.line X.env=pure false:=by rfl)(hw:swappedStores [tg] e X.env=pure none:=by rfl)
  (h1:(assignEach [tg] X.env).map (·.2)=[assign tg X.env]:=by rfl):PS X (.Assign [tg] e pos) (xT te g):=by
 intro pins s σ H D I h
 refine wpAny_Assign_stores (thn (he pins s σ H _ I h) λv s1 ⟨x,H1,I1,r1,q1⟩ =>?_) hs hw
 rw[h1]
 exact thn (hg pins s1 σ H1 x v _ I1 r1 q1) λ_ s2 q=>q
theorem ax {i:Nat}{x:Str}{e:Expr}{te:TE}{pos':Pos}(hN:X.N.Nodup)(hi:X.N[i]? = some x)(hx:Loc X.env.scope x)(he:PE X e te)(hs:swapsWith e (some (.Name x pos')) pos.line X.env=pure false:=by rfl)(hf:X.fn x=true\/X.env.scope.names.lookup x=some .local:=by first | exact .inl rfl | exact .inr rfl | assumption) :
  PS X (.Assign [.Name x pos'] e pos) (xT te (kM i)):=by
 intro pins s σ H D I h
 refine wpAny_Assign_Name (thn (he pins s σ H _ I h) λv s1 ⟨y,H1,I1,r1,q1⟩ =>?_) hs
 exact gE I1 hN hi hx r1 (λs2 I2=>⟨_,H1,I2,q1⟩) hf
def tPar (i j:Nat)(ta:TA):TS:=λD σ H=>ta σ H λvs H1=>∃v w,vs=[v,w]/\D.nx ((σ.set i (some v)).set j (some w)) H1
theorem xU {i j:Nat}{x y:Str}{a b:Expr}{ta:TA}{px py pt:Pos}{kt k2 pt2}(hc:X.calm=true)(hN:X.N.Nodup)(hi:X.N[i]? = some x)(hj:X.N[j]? = some y)(hij:i≠j)
    (hx:X.env.scope.names.lookup x=some .local) (hy:X.env.scope.names.lookup y=some .local) (ha:PA X [a,b] ta)
    (hw:swappedStores [.Tuple [.Name x px,.Name y py] kt pt] (.Tuple [a,b] k2 pt2) X.env=pure (some [x,y]))
    (hs:swapsWithSole [.Tuple [.Name x px,.Name y py] kt pt] (.Tuple [a,b] k2 pt2) pos.line X.env=pure false:=by rfl) :
    PS X (.Assign [.Tuple [.Name x px,.Name y py] kt pt] (.Tuple [a,b] k2 pt2) pos) (tPar i j ta):=by
  intro pins s σ H D I h
  rw[exec_Assign_arm]
  refine zY (Et ?_)
  rw[hs]
  refine zY (Aa ?_)
  rw[if_neg (by decide)]
  refine zY (Tuple_ (thn (ha _ pins s σ H _ I h) λus s1 ⟨vs,H1,I1,r1,q1⟩ =>?_))
  obtain ⟨v,w,e1,q1⟩:=q1
  subst e1
  obtain ⟨u1,u2,rfl,rv,rw'⟩:∃u1 u2,us=[u1,u2]/\RelV v u1/\RelV w u2:=by
    cases r1 with
    | cons p q =>
      cases q with
      | cons p' q' =>
        cases q'
        exact ⟨_,_,rfl,p,p'⟩
  refine A2 ?_ (by show 2<=Ao;decide)
  have I2:Inv X pins σ H1 { s1 with heap:=s1.heap.push { cls :=.type "tuple",data :=.seq [u1,u2].toArray } }:=I1.kept (t':=s1.toks) λb o e=>zZ _ e
  rw[hw]
  refine zY (Aa ?_)
  show AA (AM X.prog X.w) X.A (do rule "assign.swapped-stores";let items ← unpackItems (.ref s1.heap.objs.size) 2 none;assignInOrder [λv=>bindName X.env y v,λv=>bindName X.env x v] items.reverse;pure Flow.next) _ _ _
  refine zY (Dh (zY (unpackItems_tuple (items := #[u1,u2]) (I.ok.hd hc) (IsTup.new s1.heap _) λh' hx' =>?_)))
  have I3:=I2.kept (h':=h') (t':=s1.toks) λb o e=>hx' b o (AD (An e)) e
  show AA _ _ (assignInOrder [λv=>bindName X.env y v,λv=>bindName X.env x v] [u2,u1] >>= λ_=>pure Flow.next) _ _ _
  refine zY (Fb (wpAny_bindName (gE I3 hN hj (.inl hy) rw' (λs2 I4 =>?_) (.inr hy))))
  refine Fb (wpAny_bindName (gE I4 hN hi (.inl hx) rv (λs3 I5=>G8 (Aa ?_)) (.inr hx)))
  rw[List.set_comm _ _ (B4 hij)] at I5
  exact ⟨_,H1,I5,q1⟩
def zc (to ti te:TE)(tget:V->V->Hp->VK->Prop)(tip:TIp)(tset:tE):TS:=λD σ H=>to σ H λo H1=>ti σ H1 λi H2=>tget o i H2 λx H3=>te σ H3 λy H4=>tip x y H4 λz H5=>tset o i z H5 λH6=>D.nx σ H6
def zd (X:Cx)(t:V->V->Hp->VK->Prop):Prop :=
 ∀(pins:List (Addr×Obj)) (s:Ac) (σ:St) (H:Hp) (o i:V) (ov iv:z9) (Q:VK),Inv X pins σ H s->RelV o ov->RelV i iv->t o i H Q →
  AA (AM X.prog X.w) X.A (getItem ov iv) (EP X pins σ Q) X.xe s
theorem qh {o i e:Expr}{to ti te:TE}{tget:V->V->Hp->VK->Prop}{tip:TIp}{tset:tE}{op:Operator}{tpos:Pos}(ho:PE X o to)(hi:PE X i ti)(hg:zd X tget)(he:PE X e te)(hp:PIp X op tip)(hs:xS X tset)
    (ha:∀ov iv new,augStore i ov iv new=(do EM [new,ov,iv] (setItem ov iv new);release [new,ov,iv] [];pure .next):=by intros;rfl):PS X (.AugAssign (.Subscript o i tpos) op e pos) (zc to ti te tget tip tset):=by
  intro pins s σ H D I h
  refine wpAny_AugAssign_SubscriptAny (thn (ho pins s σ H _ I h) λov s1 ⟨x1,H1,I1,r1,q1⟩ =>?_) ha
  refine thn (hi pins s1 σ H1 _ I1 q1) λiv s2 ⟨x2,H2,I2,r2,q2⟩ =>?_
  refine thn (hg pins s2 σ H2 x1 x2 ov iv _ I2 r1 r2 q2) λold s3 ⟨x3,H3,I3,r3,q3⟩ =>?_
  refine thn (he pins s3 σ H3 _ I3 q3) λv s4 ⟨x4,H4,I4,r4,q4⟩ =>?_
  refine thn (hp pins s4 σ H4 x3 x4 old v _ I4 r3 r4 q4) λnew s5 ⟨x5,H5,I5,r5,q5⟩ =>?_
  exact thn (hs pins s5 σ H5 x1 x2 x5 ov iv new _ I5 r1 r2 r5 q5) λ_ s6 ⟨H6,I6,q6⟩=>⟨σ,H6,I6,q6⟩
def ipI (f:Int->Int->Int):TIp:=λx y H Q=>∃i j,x = .int i/\y = .int j/\Q (.int (f i j)) H
theorem tF:PIp X .Add (ipI λi j=>i+j):=by
 intro pins s σ H x y v u Q I r1 r2 h
 obtain ⟨i,j,e1,e2,q⟩:=h
 subst e1;subst e2
 obtain ⟨t,rfl⟩:=r1
 obtain ⟨t',rfl⟩:=r2
 exact iadd_int ⟨.int _,H,I.tok _,⟨_,rfl⟩,q⟩
end
section
variable  {X:Cx}{pos:Pos}
def tG (c:TT)(tb:TS):TS:=λD σ H=>∃W:Nat->St->Hp->Prop,(∃m,W m σ H)/\∀m σ H,W m σ H →
 c σ H λb H1=>if b=true then ∃N:St->Hp->Prop,(∀σ' H',N σ' H'->∃m',m'<m/\W m' σ' H')/\tb { D with nx:=N,ct:=N,bk:=D.nx } σ H1 else D.nx σ H1
theorem eI {c:Expr}{body:List Stmt}{tc:TT}{tb:TS}(hp:PassesOwn (AM X.prog X.w) X.A X.env X.xe)(hc:PT X c tc)(hb:PSs X body tb):PS X (.While c body [] pos) (tG tc tb):=by
 intro pins s σ H D I h
 obtain ⟨W,⟨m0,w0⟩,turn⟩:=h
 refine wpAny_While (codeAny_whileLoop (λn s'=>∃σ' H',Inv X pins σ' H' s'/\W n σ' H') ?_ m0 ⟨σ,H,I,w0⟩)
 rintro n s1 ⟨σ1,H1,I1,w1⟩
 refine Dy hp (thn (hc pins s1 σ1 H1 _ I1 (turn n σ1 H1 w1)) λb s2 ⟨H2,I2,q2⟩ =>?_)
 cases b with
 | true =>
  obtain ⟨N,hN,q2⟩:=q2
  rw[if_pos rfl]
  refine Dy hp (thn (hb pins s2 σ1 H2 _ I2 q2) λf s3 q3 =>?_)
  cases f with
  | next =>
   obtain ⟨σ3,H3,I3,n3⟩:=q3
   obtain ⟨m',hm,w3⟩:=hN σ3 H3 n3
   exact ⟨m',hm,σ3,H3,I3,w3⟩
  | cont =>
   obtain ⟨σ3,H3,I3,n3⟩:=q3
   obtain ⟨m',hm,w3⟩:=hN σ3 H3 n3
   exact ⟨m',hm,σ3,H3,I3,w3⟩
  | brk=>exact q3
  | ret v=>exact q3
 | false =>
  rw[if_neg Ak]
  exact EZ ⟨σ1,H2,I2,q2⟩
end
structure It where
 go:Nat->Hp->Prop
 yld:Nat->Hp->V->Hp->Prop
 stop:Nat->Hp->Prop
def kj (X:Cx)(pins:List (Addr×Obj))(H:Hp)(b:Addr):Prop :=
 H b=none/\b≠X.env.locals/\b∉X.fs/\(b∈X.ex\/X.s₀.heap.objs.size<=b)/\(∀x c,X.env.cells.lookup x=some c->c≠b)/\∀p∈X.pn++pins,p.1≠b
theorem Inv.vF {X:Cx}{pins:List (Addr×Obj)}{σ:St}{H H':Hp}{s:Ac}{b:Addr}(I:Inv X pins σ H s)(hb:s.heap.objs.size<=b)(hn:H' b=none):kj X pins H' b:=by
 refine ⟨hn,Ec (Ax I.lt hb),I.xO hb,.inr (A4 I.sz hb),λx c e z =>?_,λp hp z =>?_⟩
 ·obtain ⟨v,q⟩:=I.cell x c e
  exact absurd (Ax q.lt (by rw[z];exact hb)) (A5 _)
 ·exact absurd (Ax (An (I.pin p hp).1) (by rw[z];exact hb)) (A5 _)
structure Turn (P:Au)(w:AV)(K:z8)(tg:Expr)(J:It)(fp:List Addr)(it:Addr)(tn:Nat->Heap->Prop):Prop where
 mem:it∈fp
 obj:∀i h,tn i h->∀b∈fp,∃o,h.get? b=some o/\∀v,o.data ≠ .cell v
 keep:∀i h h',tn i h->(∀b∈fp,∀o,h.get? b=some o->h'.get? b=some o)->tn i h'
 item:∀(X:Cx),X.prog=P->X.w=w->X.K=K->X.calm=true->∀(i:Nat) (pins:List (Addr×Obj)) (s:Ac) (σ:St) (H:Hp) (E:z9->Ac->Prop),Inv X pins σ H s->(∀b∈fp,kj X pins H b)->tn i s.heap->J.go i H →
  AA (AM P w) X.A (pyNext (.ref it)) (λr s1=>∃u,r=some u ∧
   AA (AM P w) X.A (letOwnedTupleGo tg (.ref it) u) (λ_ s2=>∃x H',Inv X pins σ H' s2/\RelV x u/\J.yld i H x H'/\tn (i+1) s2.heap/\∀b∈fp,H' b=none) E s1) E s
 done:∀(X:Cx),X.prog=P->X.w=w->X.K=K->X.calm=true->∀(i:Nat) (pins:List (Addr×Obj)) (s:Ac) (σ:St) (H:Hp) (E:z9->Ac->Prop),Inv X pins σ H s->(∀b∈fp,kj X pins H b)->tn i s.heap->J.stop i H →
  AA (AM P w) X.A (pyNext (.ref it)) (λr s1=>r=none/\Inv X pins σ H s1) E s
 self:∀(A:Bd) (i:Nat) (s:Ac) (Q:z9->Ac->Prop) (E:z9->Ac->Prop),tn i s.heap->Q (.ref it) s->AA (AM P w) A (pyIter (.ref it)) Q E s
abbrev TI:=St->Hp->(It->Hp->Prop)->Prop
def PIE (X:Cx)(pins:List (Addr×Obj))(σ:St)(tg:Expr)(R:It->Hp->Prop)(itv:z9)(s2:Ac):Prop :=
 ∃(it:Addr) (fp:List Addr) (tn:Nat->Heap->Prop) (J:It) (H':Hp),itv = .ref it/\Inv X pins σ H' s2/\Turn X.prog X.w X.K tg J fp it tn/\tn 0 s2.heap/\(∀b∈fp,kj X pins H' b)/\R J H'
def PI (X:Cx)(tg iter:Expr)(wi:TI):Prop :=
 ∀(pins:List (Addr×Obj)) (s:Ac) (σ:St) (H:Hp) (R:It->Hp->Prop),Inv X pins σ H s->wi σ H R →
  AA (AM X.prog X.w) X.A (eval iter X.env) (λv s1=>AA (AM X.prog X.w) X.A (pyIter v) (PIE X pins σ tg R) X.xe s1) X.xe s
theorem tH {M:Model}{A:Bd}{E:z9->Ac->Prop}{s:Ac}{tg:Expr}{it:Addr}{u:z9}{o:Obj}{n:String}{vs:Array z9}{Q:Unit->Ac->Prop}(ho:s.heap.get? it=some o)(hc:o.cls = .type n)(hd:o.data = .fields vs)
    (hn:["enumerate", "zip", "dict_itemiterator", "dict_reverseitemiterator", "odict_iterator", "itertools.zip_longest", "itertools.pairwise"].contains n=false) (hQ:Q () s):AA M A (letOwnedTupleGo tg (.ref it) u) Q E s:=by
  unfold letOwnedTupleGo
  cases tg <;> first
    | exact Aa hQ
    | (cases u <;> first
        | exact Aa hQ
        | (refine zY (G9 ho ?_)
           rw[hc,hd]
           show AA M A (if (["enumerate", "zip", "dict_itemiterator", "dict_reverseitemiterator", "odict_iterator", "itertools.zip_longest", "itertools.pairwise"].contains n && vs[0]? == some (Ex _))=true then _ else _) Q E s
           rw[if_neg (by intro h;rw[hn,CT] at h;cases h)]
           exact Aa hQ))
def Itl (K:z8)(a:Addr):It :=
 ⟨λi H=>∃xs x,SqL K H a xs/\xs[i]? = some x,λi H x H'=>H'=H/\∀xs,SqL K H a xs->xs[i]? = some x,λi H=>∃xs,SqL K H a xs/\xs.length<=i⟩
def Itt (K:z8)(a:Addr):It :=
 ⟨λi H=>∃xs x,SqT K H a xs/\xs[i]? = some x,λi H x H'=>H'=H/\∀xs,SqT K H a xs->xs[i]? = some x,λi H=>∃xs,SqT K H a xs/\xs.length<=i⟩
def Itr (lo:Int)(n:Nat):It:=⟨λi _=>i<n,λi H x H'=>H'=H/\x = .int (lo+i),λi _=>n<=i⟩
theorem kN {P:Au}{w:AV}{K:z8}{tg:Expr}(a it:Addr):Turn P w K tg (Itl K a) [it] it (λi h=>h.IsListIter it a i) where
 mem:=by simp
 obj:=λi h st b hb=>by
  have e:b=it:=by simpa using hb
  subst e
  obtain ⟨o,e,c,d⟩:=st
  exact ⟨o,e,λv z=>by rw[d] at z;cases z⟩
 keep:=λi h h' st k=>st.at λo e=>k it (by simp) o e
 item:=by
  intro X hP hw hK hc i pins s σ H E I hf st hg
  subst hP hw hK
  obtain ⟨xs,x,hq,hx⟩:=hg
  obtain ⟨its,rv,p,hz⟩:=I.list hq
  obtain ⟨u,hu,ru⟩:=rv.get hx
  obtain ⟨f0,f1,f2,f3,f4,f5⟩:=hf it (by simp)
  refine wpAny_pyNext_list_item st p.isList (x:=u) (by simpa using hu) λh' st' sb =>?_
  have I1:Inv X pins σ H { s with heap:=h' }:=I.turned (t':=s.toks) (λb o hb e=>(sb.2 b hb).trans e) f0 f1 f3 f4 f5
  obtain ⟨o,e,c,d⟩:=id st'
  exact ⟨u,rfl,tH (s:={ s with heap:=h' }) e c d (by decide) ⟨x,H,I1,ru,⟨rfl,λys hy=>by rw[I.tD hy hq];exact hx⟩,st',λb hb=>(hf b hb).1⟩⟩
 done:=by
  intro X hP hw hK hc i pins s σ H E I hf st hg
  subst hP hw hK
  obtain ⟨xs,hq,hx⟩:=hg
  obtain ⟨its,rv,p,hz⟩:=I.list hq
  obtain ⟨f0,f1,f2,f3,f4,f5⟩:=hf it (by simp)
  have hl:=rv.length
  exact wpAny_pyNext_list_end (I.ok.hd hc) st p.isList (by simp;lia) λh' eb=>⟨rfl,I.turned (t':=s.toks) (λb o hb e=>eb b o hb e) f0 f1 f3 f4 f5⟩
 self:=λ_ _ _ _ _ st h=>wpAny_pyIter_listiter st h
theorem ju {P:Au}{w:AV}{K:z8}{tg:Expr}(a it:Addr):Turn P w K tg (Itt K a) [it] it (λi h=>h.IsTupleIter it a i) where
 mem:=by simp
 obj:=λi h st b hb=>by
  have e:b=it:=by simpa using hb
  subst e
  obtain ⟨o,e,c,d⟩:=st
  exact ⟨o,e,λv z=>by rw[d] at z;cases z⟩
 keep:=λi h h' st k=>st.at λo e=>k it (by simp) o e
 item:=by
  intro X hP hw hK hc i pins s σ H E I hf st hg
  subst hP hw hK
  obtain ⟨xs,x,hq,hx⟩:=hg
  obtain ⟨its,rv,p,hz⟩:=I.tuple hq
  obtain ⟨u,hu,ru⟩:=rv.get hx
  obtain ⟨f0,f1,f2,f3,f4,f5⟩:=hf it (by simp)
  refine wpAny_pyNext_tuple_item st (show s.heap.IsTuple a its.toArray from p) (x:=u) (by simpa using hu) λh' st' sb =>?_
  have I1:Inv X pins σ H { s with heap:=h' }:=I.turned (t':=s.toks) (λb o hb e=>(sb.2 b hb).trans e) f0 f1 f3 f4 f5
  obtain ⟨o,e,c,d⟩:=id st'
  exact ⟨u,rfl,tH (s:={ s with heap:=h' }) e c d (by decide) ⟨x,H,I1,ru,⟨rfl,λys hy=>by rw[I.kK hy hq];exact hx⟩,st',λb hb=>(hf b hb).1⟩⟩
 done:=by
  intro X hP hw hK hc i pins s σ H E I hf st hg
  subst hP hw hK
  obtain ⟨xs,hq,hx⟩:=hg
  obtain ⟨its,rv,p,hz⟩:=I.tuple hq
  obtain ⟨f0,f1,f2,f3,f4,f5⟩:=hf it (by simp)
  have hl:=rv.length
  exact wpAny_pyNext_tuple_end (I.ok.hd hc) st (show s.heap.IsTuple a its.toArray from p) (by simp;lia) λh' eb=>⟨rfl,I.turned (t':=s.toks) (λb o hb e=>eb b o hb e) f0 f1 f3 f4 f5⟩
 self:=λ_ _ _ _ _ st h=>wpAny_pyIter_tupleiter st h
theorem oW {P:Au}{w:AV}{K:z8}{tg:Expr}(it:Addr)(lo:Int)(n:Nat):Turn P w K tg (Itr lo n) [it] it (λi h=>IsRangeIter h it (lo+(i:Nat)*1) ((n:Int)-(i:Nat)) 1) where
 mem:=by simp
 obj:=λi h st b hb=>by
  have e:b=it:=by simpa using hb
  subst e
  exact ⟨_,st,λv z=>by
   have z':Data.fields _=Data.cell v:=z
   cases z'⟩
 keep:=λi h h' st k=>k it (by simp) _ st
 item:=by
  intro X hP hw hK hc i pins s σ H E I hf st hg
  subst hP hw hK
  obtain ⟨f0,f1,f2,f3,f4,f5⟩:=hf it (by simp)
  have W:=Walks.range (prog:=X.prog) (w:=X.w) (I.ok.hd hc) it lo 1 n
  refine W.item i s _ _ hg st λv h' tk hv st' kk =>?_
  obtain ⟨t,rfl⟩:=hv
  have I1:Inv X pins σ H { s with heap:=h',toks:=tk }:=I.turned (λb o hb e=>kk b o (by simpa using hb) e) f0 f1 f3 f4 f5
  refine ⟨_,rfl,tH (s:={ s with heap:=h',toks:=tk }) (n := "range_iterator") st' rfl rfl (by decide) ⟨.int (lo+i),H,I1,⟨t,?_⟩,⟨rfl,rfl⟩,st',λb hb=>(hf b hb).1⟩⟩
  rw[Int.mul_one]
 done:=by
  intro X hP hw hK hc i pins s σ H E I hf st hg
  subst hP hw hK
  obtain ⟨f0,f1,f2,f3,f4,f5⟩:=hf it (by simp)
  exact wpAny_pyNext_range_end (I.ok.hd hc) st (by have:n<=i:=hg;lia) λh' eb=>⟨rfl,I.turned (t':=s.toks) (λb o hb e=>eb b o hb e) f0 f1 f3 f4 f5⟩
 self:=λ_ _ _ _ _ st h=>wpAny_pyIter_rangeiter st h
open PySem PySem.Spec PyProof.Rows
section
variable  {X:Cx}{tg:Expr}
def ze (K:z8)(tl:TE):TI:=λσ H R=>tl σ H λx H1=>∃a,x = .ref a/\(∃xs,SqL K H1 a xs)/\R (Itl K a) H1
def iTup (K:z8)(tl:TE):TI:=λσ H R=>tl σ H λx H1=>∃a,x = .ref a/\(∃xs,SqT K H1 a xs)/\R (Itt K a) H1
theorem cM {l:Expr}{tl:TE}(hl:PE X l tl):PI X tg l (ze X.K tl):=by
 intro pins s σ H R I h
 refine thn (hl pins s σ H _ I h) λv s1 ⟨x,H1,I1,r1,q1⟩ =>?_
 obtain ⟨a,e,⟨xs,hq⟩,q⟩:=q1
 subst e
 cases r1
 obtain ⟨its,rv,p,hz⟩:=I1.list hq
 refine Dz p.isList ?_
 refine ⟨s1.heap.objs.size,[s1.heap.objs.size],_,_,H1,rfl,I1.kept (t':=s1.toks) λb o e=>zZ _ e,kN a _,⟨_,Am _ rfl,rfl,rfl⟩,λb hb =>?_,q⟩
 have e:b=s1.heap.objs.size:=by simpa using hb
 subst e
 exact I1.vF (Ag _) (I1.hok.fresh (Ag _))
theorem gf {l:Expr}{tl:TE}(hl:PE X l tl):PI X tg l (iTup X.K tl):=by
 intro pins s σ H R I h
 refine thn (hl pins s σ H _ I h) λv s1 ⟨x,H1,I1,r1,q1⟩ =>?_
 obtain ⟨a,e,⟨xs,hq⟩,q⟩:=q1
 subst e
 cases r1
 obtain ⟨its,rv,p,hz⟩:=I1.tuple hq
 refine Dk (show s1.heap.IsTuple a its.toArray from p) ?_
 refine ⟨s1.heap.objs.size,[s1.heap.objs.size],_,_,H1,rfl,I1.kept (t':=s1.toks) λb o e=>zZ _ e,ju a _,⟨_,Am _ rfl,rfl,rfl⟩,λb hb =>?_,q⟩
 have e:b=s1.heap.objs.size:=by simpa using hb
 subst e
 exact I1.vF (Ag _) (I1.hok.fresh (Ag _))
theorem tI {pins:List (Addr×Obj)}{σ:St}{H:Hp}{s:Ac}{R:It->Hp->Prop}{E:z9->Ac->Prop}{lo hi:Int}{t u v:Tok}{tk:Nat}(I:Inv X pins σ H s)(h1 : -(2 ^ 62)<=lo)(h2:lo<2 ^ 62)(h3 : -(2 ^ 62)<=hi)(h4:hi<2 ^ 62)
  (q:R (Itr lo (hi-lo).toNat) H):AA (AM X.prog X.w) X.A (pyIter (.ref s.heap.objs.size)) (PIE X pins σ tg R) E { s with heap:=s.heap.push { cls :=.type "range",data :=.fields #[.int lo t,.int hi u,.int 1 v] },toks:=tk }:=by
 refine wpAny_pyIter_range (IsRange.new ..) (small_one h1 h2 h3 h4) ?_
 have I1:Inv X pins σ H { s with heap:=s.heap.push { cls :=.type "range",data :=.fields #[.int lo t,.int hi u,.int 1 v] },toks:=tk }:=I.kept λb o e=>zZ _ e
 refine ⟨(s.heap.push { cls :=.type "range",data :=.fields #[.int lo t,.int hi u,.int 1 v] }).objs.size,[(s.heap.push { cls :=.type "range",data :=.fields #[.int lo t,.int hi u,.int 1 v] }).objs.size],_,_,H,rfl,
  I1.kept (t':=tk) λb o e=>zZ _ e,oW _ lo (hi-lo).toNat,?_,λb hb =>?_,q⟩
 ·have e1:lo+((0:Nat):Int)*1=lo:=by simp
  have e2:(((hi-lo).toNat:Nat):Int)-((0:Nat):Int)=Builtin.Range.rangeSize lo hi 1:=by rw[rangeSize_one];split <;> lia
  show IsRangeIter _ _ (lo+((0:Nat):Int)*1) ((((hi-lo).toNat:Nat):Int)-((0:Nat):Int)) 1
  rw[e1,e2]
  exact Am _ rfl
 ·have e:b=(s.heap.push { cls :=.type "range",data :=.fields #[.int lo t,.int hi u,.int 1 v] }).objs.size:=by simpa using hb
  subst e
  exact I1.vF (Ag _) (I1.hok.fresh (Ag _))
def zf (ta:TA):TI:=λσ H R=>ta σ H λvs H1=>∃j:Int,vs=[.int j] /\ -(2 ^ 62)<=j/\j<2 ^ 62/\R (Itr 0 j.toNat) H1
theorem bB {a:Expr}{ta:TA}{p pos:Pos}(hg:Gl X "range")(hm:X.mg "range" = none)(ha:PA X [a] ta)(hs:Bt [a] X.env=[(false,eval a X.env)]:=by rfl):PI X tg (.Call (.Name "range" p) [a] [] pos) (zf ta):=by
 intro pins s σ H R I h
 refine Call_ (eF I hg hm boot_range (C1 (thn (ha pos pins s σ H _ I h) λus s1 ⟨vs,H1,I1,r1,q1⟩ =>?_) hs rfl))
 obtain ⟨j,e,q1,q2,q⟩:=q1
 subst e
 cases r1 with
 | cons r rr =>
  cases rr
  obtain ⟨t,rfl⟩:=r
  exact call_range_1 (tI I1 (by lia) (by lia) q1 q2 (by simpa using q))
def tFor (wi:TI)(g:TG)(tb:TS):TS:=λD σ H=>wi σ H λJ H1=>∃W:Nat->Nat->St->Hp->Prop,(∃m,W 0 m σ H1)/\∀i m σ H,W i m σ H →
 (J.stop i H/\D.nx σ H)\/(J.go i H/\∃N:St->Hp->Prop,(∀σ' H',N σ' H'->∃m',m'<m/\W (i+1) m' σ' H')/\∀x H',J.yld i H x H'->g x σ H' λσ2 H2=>tb { D with nx:=N,ct:=N,bk:=D.nx } σ2 H2)
def gg (fp:List Addr)(h:Heap):List (Addr×Obj):=fp.filterMap λb=>(h.get? b).map λo=>(b,o)
theorem cS {fp:List Addr}{h:Heap}{b:Addr}{o:Obj}(hb:b∈fp)(e:h.get? b=some o):(b,o)∈gg fp h:=Ej.mpr ⟨b,hb,by rw[e];rfl⟩
theorem kO {fp:List Addr}{h:Heap}{p:Addr×Obj}(hp:p∈gg fp h):p.1∈fp/\h.get? p.1=some p.2:=by
 obtain ⟨b,hb,e⟩:=Ej.mp hp
 cases q:h.get? b with
 | none=>rw[q] at e;cases e
 | some o =>
  rw[q] at e
  have e':(b,o)=p:=AI e
  subst e'
  exact ⟨hb,q⟩
theorem Inv.pinned {pins:List (Addr×Obj)}{σ:St}{H:Hp}{s:Ac}{fp:List Addr}(I:Inv X pins σ H s)(hf:∀b∈fp,kj X pins H b)(ho:∀b∈fp,∃o,s.heap.get? b=some o/\∀v,o.data ≠ .cell v):Inv X (pins++gg fp s.heap) σ H s :=
 I.gD λp hp=>(As.mp hp).elim (λz=>I.pin p (AQ _ z)) λz=>by
  obtain ⟨hb,e⟩:=kO z
  obtain ⟨f0,f1,f2,_⟩:=hf p.1 hb
  obtain ⟨o,e',d⟩:=ho p.1 hb
  rw[e] at e';cases e'
  exact ⟨e,f0,f1,f2,d⟩
theorem Inv.du {pins pl:List (Addr×Obj)}{σ:St}{H:Hp}{s:Ac}(I:Inv X (pins++pl) σ H s):Inv X pins σ H s:=I.gD λp hp=>I.pin p (AQ _ (CK _ hp))
theorem cf {iter:Expr}{body:List Stmt}{wi:TI}{g:TG}{tb:TS}{pos:Pos}(hp:PassesOwn (AM X.prog X.w) X.A X.env X.xe)(hc:X.calm=true)(hi:PI X tg iter wi)(hg:PG X tg g)(hb:PSs X body tb)
  (hs:∀x,foldedSetIterable iter X.env x=pure x:=by intro _;rfl):PS X (.For tg iter body [] pos) (tFor wi g tb):=by
 intro pins s σ H D I h
 refine wpAny_For (thn (hi pins s σ H _ I h) λv s1 h1=>thn h1 λitv s2 h2 =>?_) hs
 obtain ⟨it,fp,tn,J,H2,e,I2,T,st2,f2,W,⟨m0,w0⟩,turn⟩:=h2
 subst e
 have stat:∀{H':Hp},(∀b∈fp,H' b=none)->∀b∈fp,kj X pins H' b:=λhn b hb=>⟨hn b hb,(f2 b hb).2⟩
 refine codeAny_forLoop_any (λn s'=>∃i σ' H',Inv X pins σ' H' s'/\tn i s'.heap/\(∀b∈fp,H' b=none)/\W i n σ' H') ?_ m0 ⟨0,σ,H2,I2,st2,λb hb=>(f2 b hb).1,w0⟩
 rintro n s3 ⟨i,σ3,H3,I3,st3,fr3,w3⟩
 rcases turn i n σ3 H3 w3 with ⟨stop,qn⟩ | ⟨go,N,hN,step⟩
 ·refine Dy hp (thn (T.done X rfl rfl rfl hc i pins s3 σ3 H3 X.xe I3 (stat fr3) st3 stop) λr s4 ⟨hr,I4⟩ =>?_)
  subst hr
  exact EZ ⟨σ3,H3,I4,qn⟩
 ·refine Dy hp (thn (T.item X rfl rfl rfl hc i pins s3 σ3 H3 X.xe I3 (stat fr3) st3 go) λr s4 ⟨u,hr,h4⟩ =>?_)
  subst hr
  refine Dy hp (thn h4 λ_ s5 ⟨x,H5,I5,r5,y5,st5,fr5⟩ =>?_)
  have I5':=I5.pinned (stat fr5) (T.obj _ _ st5)
  refine Dy hp (thn (hg _ s5 σ3 H5 x u _ I5' r5 (step x H5 y5)) λ_ s6 ⟨σ6,H6,I6,q6⟩ =>?_)
  refine Dy hp (thn (hb _ s6 σ6 H6 _ I6 q6) λf s7 q7 =>?_)
  have again:∀{σ7:St} {H7:Hp},Inv X (pins++gg fp s5.heap) σ7 H7 s7->N σ7 H7->∃m,m<n/\∃i σ' H',Inv X pins σ' H' s7/\tn i s7.heap/\(∀b∈fp,H' b=none)/\W i m σ' H':=λ{σ7 H7} I7 n7=>by
   obtain ⟨m',hm,w7⟩:=hN σ7 H7 n7
   refine ⟨m',hm,i+1,σ7,H7,I7.du,T.keep _ _ _ st5 λb hb o e=>(I7.pin (b,o) (AQ _ (AQ _ (cS hb e)))).1,λb hb =>?_,w7⟩
   obtain ⟨o,e,d⟩:=T.obj _ _ st5 b hb
   exact (I7.pin (b,o) (AQ _ (AQ _ (cS hb e)))).2.1
  cases f with
  | next=>obtain ⟨σ7,H7,I7,n7⟩:=q7;exact again I7 n7
  | cont=>obtain ⟨σ7,H7,I7,n7⟩:=q7;exact again I7 n7
  | brk=>obtain ⟨σ7,H7,I7,q7⟩:=q7;exact ⟨σ7,H7,I7.du,q7⟩
  | ret v=>obtain ⟨x7,σ7,H7,I7,r7,q7⟩:=q7;exact ⟨x7,σ7,H7,I7.du,r7,q7⟩
end
theorem gF {K:z8}{a:Addr}{xs:List V}{g:TG}{tb:TS}{D:Ends}{σ:St}{H:Hp}(Pv:Nat->St->Hp->Prop)(h0:Pv 0 σ H)(hl:∀i σ H,i<=xs.length->Pv i σ H->SqL K H a xs)
  (hs:∀i x σ H,xs[i]? = some x->Pv i σ H->g x σ H λσ2 H2=>tb { D with nx:=Pv (i+1),ct:=Pv (i+1),bk:=D.nx } σ2 H2) (hd:∀σ H,Pv xs.length σ H->D.nx σ H) :
  ∃W:Nat->Nat->St->Hp->Prop,(∃m,W 0 m σ H)/\∀i m σ H,W i m σ H →
   ((Itl K a).stop i H/\D.nx σ H)\/((Itl K a).go i H/\∃N:St->Hp->Prop,(∀σ' H',N σ' H'->∃m',m'<m/\W (i+1) m' σ' H')/\∀x H',(Itl K a).yld i H x H'->g x σ H' λσ2 H2=>tb { D with nx:=N,ct:=N,bk:=D.nx } σ2 H2):=by
 refine ⟨λi m σ H=>m=xs.length-i/\i<=xs.length/\Pv i σ H,⟨xs.length,by simp,A7 _,h0⟩,?_⟩
 rintro i m σ H ⟨rfl,hi,p⟩
 have q:=hl i σ H hi p
 by_cases hlt:i<xs.length
 ·refine .inr ⟨⟨xs,xs[i],q,by simp[hlt]⟩,Pv (i+1),λσ' H' p'=>⟨xs.length-(i+1),by lia,rfl,hlt,p'⟩,λx H' y =>?_⟩
  obtain ⟨e,y⟩:=y
  subst e
  exact hs i x σ _ (y xs q) p
 ·have e:i=xs.length:=by lia
  subst e
  exact .inl ⟨⟨xs,q,Ag _⟩,hd σ H p⟩
theorem iZ {K:z8}{a:Addr}{xs:List V}{g:TG}{tb:TS}{D:Ends}{σ:St}{H:Hp}(Pv:Nat->St->Hp->Prop)(h0:Pv 0 σ H)(hl:∀i σ H,i<=xs.length->Pv i σ H->SqT K H a xs)
  (hs:∀i x σ H,xs[i]? = some x->Pv i σ H->g x σ H λσ2 H2=>tb { D with nx:=Pv (i+1),ct:=Pv (i+1),bk:=D.nx } σ2 H2) (hd:∀σ H,Pv xs.length σ H->D.nx σ H) :
  ∃W:Nat->Nat->St->Hp->Prop,(∃m,W 0 m σ H)/\∀i m σ H,W i m σ H →
   ((Itt K a).stop i H/\D.nx σ H)\/((Itt K a).go i H/\∃N:St->Hp->Prop,(∀σ' H',N σ' H'->∃m',m'<m/\W (i+1) m' σ' H')/\∀x H',(Itt K a).yld i H x H'->g x σ H' λσ2 H2=>tb { D with nx:=N,ct:=N,bk:=D.nx } σ2 H2):=by
 refine ⟨λi m σ H=>m=xs.length-i/\i<=xs.length/\Pv i σ H,⟨xs.length,by simp,A7 _,h0⟩,?_⟩
 rintro i m σ H ⟨rfl,hi,p⟩
 have q:=hl i σ H hi p
 by_cases hlt:i<xs.length
 ·refine .inr ⟨⟨xs,xs[i],q,by simp[hlt]⟩,Pv (i+1),λσ' H' p'=>⟨xs.length-(i+1),by lia,rfl,hlt,p'⟩,λx H' y =>?_⟩
  obtain ⟨e,y⟩:=y
  subst e
  exact hs i x σ _ (y xs q) p
 ·have e:i=xs.length:=by lia
  subst e
  exact .inl ⟨⟨xs,q,Ag _⟩,hd σ H p⟩
theorem cu {lo:Int}{n:Nat}{g:TG}{tb:TS}{D:Ends}{σ:St}{H:Hp}(Pv:Nat->St->Hp->Prop)(h0:Pv 0 σ H)
  (hs:∀i σ H,i<n->Pv i σ H->g (.int (lo+i)) σ H λσ2 H2=>tb { D with nx:=Pv (i+1),ct:=Pv (i+1),bk:=D.nx } σ2 H2) (hd:∀σ H,Pv n σ H->D.nx σ H) :
  ∃W:Nat->Nat->St->Hp->Prop,(∃m,W 0 m σ H)/\∀i m σ H,W i m σ H →
   ((Itr lo n).stop i H/\D.nx σ H)\/((Itr lo n).go i H/\∃N:St->Hp->Prop,(∀σ' H',N σ' H'->∃m',m'<m/\W (i+1) m' σ' H')/\∀x H',(Itr lo n).yld i H x H'->g x σ H' λσ2 H2=>tb { D with nx:=N,ct:=N,bk:=D.nx } σ2 H2):=by
 refine ⟨λi m σ H=>m=n-i/\i<=n/\Pv i σ H,⟨n,by simp,A7 _,h0⟩,?_⟩
 rintro i m σ H ⟨rfl,hi,p⟩
 by_cases hlt:i<n
 ·refine .inr ⟨hlt,Pv (i+1),λσ' H' p'=>⟨n-(i+1),by lia,rfl,hlt,p'⟩,λx H' y =>?_⟩
  obtain ⟨e,y⟩:=y
  subst e y
  exact hs i σ _ hlt p
 ·have e:i=n:=by lia
  subst e
  exact .inl ⟨Ag _,hd σ H p⟩
theorem eJ {c:TT}{tb:TS}{D:Ends}{σ:St}{H:Hp}(Pv:St->Hp->Prop)(μ:St->Hp->Nat)(h0:Pv σ H)
  (hs:∀σ H,Pv σ H->c σ H λb H1=>if b=true then tb { D with nx:=λσ' H'=>Pv σ' H' /\ μ σ' H'<μ σ H,ct:=λσ' H'=>Pv σ' H' /\ μ σ' H'<μ σ H,bk:=D.nx } σ H1 else D.nx σ H1)
  (mono:∀σ H Q Q',(∀b H1,Q b H1->Q' b H1)->c σ H Q->c σ H Q'):tG c tb D σ H:=by
 refine ⟨λm σ H=>m=μ σ H/\Pv σ H,⟨_,rfl,h0⟩,?_⟩
 rintro m σ H ⟨rfl,p⟩
 refine mono σ H _ _ (λb H1 q =>?_) (hs σ H p)
 cases b with
 | true=>exact ⟨_,λσ' H' ⟨p',l⟩=>⟨_,l,rfl,p'⟩,q⟩
 | false=>exact q
open PySem PySem.Spec PyProof.Rows
abbrev R2:=V->V->Hp->VK->Prop
def OpR (X:Cx)(f:z9->z9->Sem z9)(r:R2):Prop :=
 ∀(pins:List (Addr×Obj)) (s:Ac) (σ:St) (H:Hp) (x y:V) (v u:z9) (Q:VK),Inv X pins σ H s->RelV x v->RelV y u->r x y H Q →
  AA (AM X.prog X.w) X.A (f v u) (EP X pins σ Q) X.xe s
def UnR (X:Cx)(f:z9->Sem z9)(r:V->Hp->VK->Prop):Prop :=
 ∀(pins:List (Addr×Obj)) (s:Ac) (σ:St) (H:Hp) (x:V) (v:z9) (Q:VK),Inv X pins σ H s->RelV x v->r x H Q →
  AA (AM X.prog X.w) X.A (f v) (EP X pins σ Q) X.xe s
def bM (X:Cx)(f:z9)(r:List V->Hp->VK->Prop):Prop :=
 ∀(pins:List (Addr×Obj)) (s:Ac) (σ:St) (H:Hp) (xs:List V) (us:List z9) (Q:VK),Inv X pins σ H s->Vals xs us->r xs H Q →
  AA (AM X.prog X.w) X.A (call f us) (EP X pins σ Q) X.xe s
def TruR (X:Cx)(r:V->Hp->(Bool->Hp->Prop)->Prop):Prop :=
 ∀(pins:List (Addr×Obj)) (s:Ac) (σ:St) (H:Hp) (x:V) (v:z9) (Q:Bool->Hp->Prop),Inv X pins σ H s->RelV x v->r x H Q →
  AA (AM X.prog X.w) X.A (truthy v) (TP X pins σ Q) X.xe s
def tOp (r:R2)(ta tb:TE):TE:=λσ H Q=>ta σ H λx H1=>tb σ H1 λy H2=>r x y H2 Q
def tUn (r:V->Hp->VK->Prop)(ta:TE):TE:=λσ H Q=>ta σ H λx H1=>r x H1 Q
def rI (C:Int->Int->Prop)(g:Int->Int->V):R2:=λx y H Q=>∃i j,x = .int i/\y = .int j/\C i j/\Q (g i j) H
def rI0 (g:Int->Int->V):R2:=λx y H Q=>∃i j,x = .int i/\y = .int j/\Q (g i j) H
def rU (g:Int->V):V->Hp->VK->Prop:=λx H Q=>∃i,x = .int i/\Q (g i) H
section
variable  {X:Cx}{a b c:Expr}{ta tb tc:TE}{pos:Pos}
theorem xV (ha:PE X a ta)(hb:PE X b tb){pins:List (Addr×Obj)}{s:Ac}{σ:St}{H:Hp}{R:V->V->Hp->Prop}(I:Inv X pins σ H s)
  (h:ta σ H λx H1=>tb σ H1 λy H2=>R x y H2) {Q:z9->Ac->Prop} {f:z9->z9->Sem z9}
  (hf:∀v u s2 x y H2,Inv X pins σ H2 s2->RelV x v->RelV y u->R x y H2->AA (AM X.prog X.w) X.A (f v u) Q X.xe s2) :
  AA (AM X.prog X.w) X.A (eval a X.env) (λv s₁=>AA (AM X.prog X.w) X.A (eval b X.env) (λu s₂=>AA (AM X.prog X.w) X.A (f v u) Q X.xe s₂) X.xe s₁) X.xe s:=by
 refine thn (ha pins s σ H _ I h) λv s1 ⟨x,H1,I1,r1,q1⟩ =>?_
 refine thn (hb pins s1 σ H1 _ I1 q1) λu s2 ⟨y,H2,I2,r2,q2⟩ =>?_
 exact hf v u s2 x y H2 I2 r1 r2 q2
theorem az {op:Operator}{r:R2}(ho:OpR X (binaryOp op) r)(ha:PE X a ta)(hb:PE X b tb):PE X (.BinOp a op b pos) (tOp r ta tb):=by
 intro pins s σ H Q I h
 exact wpAny_BinOp (xV ha hb I h λv u s2 x y H2 I2 rx ry q=>ho pins s2 σ H2 x y v u Q I2 rx ry q)
theorem tJ {op:UnaryOp}{r:V->Hp->VK->Prop}(ho:UnR X (unaryOp op) r)(ha:PE X a ta):PE X (.UnaryOp op a pos) (tUn r ta):=by
 intro pins s σ H Q I h
 exact UnaryOp_ (thn (ha pins s σ H _ I h) λv s1 ⟨x,H1,I1,r1,q1⟩=>ho pins s1 σ H1 x v Q I1 r1 q1)
theorem opI {f:z9->z9->Sem z9}{C:Int->Int->Prop}{g:Int->Int->Int}
  (rule:∀(i j:Int) (t u:Tok) (s:Ac) (Q:z9->Ac->Prop) (E:z9->Ac->Prop),C i j->Q (.int (g i j) s.toks) { s with toks:=s.toks+1 }->AA (AM X.prog X.w) X.A (f (.int i t) (.int j u)) Q E s) :
  OpR X f (rI C λi j =>.int (g i j)):=by
 intro pins s σ H x y v u Q I rx ry h
 obtain ⟨i,j,rfl,rfl,hc,q⟩:=h
 obtain ⟨t,rfl⟩:=rx
 obtain ⟨t',rfl⟩:=ry
 exact rule i j t t' s _ _ hc ⟨.int (g i j),H,I.tok _,⟨_,rfl⟩,q⟩
theorem zg {f:z9->z9->Sem z9}{g:Int->Int->Int}
  (rule:∀(i j:Int) (t u:Tok) (s:Ac) (Q:z9->Ac->Prop) (E:z9->Ac->Prop),Q (.int (g i j) s.toks) { s with toks:=s.toks+1 }->AA (AM X.prog X.w) X.A (f (.int i t) (.int j u)) Q E s) :
  OpR X f (rI0 λi j =>.int (g i j)):=by
 intro pins s σ H x y v u Q I rx ry h
 obtain ⟨i,j,rfl,rfl,q⟩:=h
 obtain ⟨t,rfl⟩:=rx
 obtain ⟨t',rfl⟩:=ry
 exact rule i j t t' s _ _ ⟨.int (g i j),H,I.tok _,⟨_,rfl⟩,q⟩
theorem xW {f:z9->z9->Sem z9}{g:Int->Int->Bool}
  (rule:∀(i j:Int) (t u:Tok) (s:Ac) (Q:z9->Ac->Prop) (E:z9->Ac->Prop),Q (.bool (g i j)) s->AA (AM X.prog X.w) X.A (f (.int i t) (.int j u)) Q E s) :
  OpR X f (rI0 λi j =>.bl (g i j)):=by
 intro pins s σ H x y v u Q I rx ry h
 obtain ⟨i,j,rfl,rfl,q⟩:=h
 obtain ⟨t,rfl⟩:=rx
 obtain ⟨t',rfl⟩:=ry
 exact rule i j t t' s _ _ ⟨.bl (g i j),H,I,rfl,q⟩
def CDiv (i j:Int):Prop:=0<j/\j<1073741824
def CPow (i j:Int):Prop:=0<=j/\j<=1000000/\i.natAbs<2 ^ 64
def xX (i j:Int):Prop:=(-(2 ^ 64)<i/\i<2 ^ 64)\/(-(2 ^ 64)<j/\j<2 ^ 64)
theorem xX.ok {i j:Int}(h:xX i j):IntMulOk i j:=by
 rcases h with ⟨h1,h2⟩ | ⟨h1,h2⟩
 ·exact .of_left (intBits_le_64 h1 h2)
 ·exact .of_right (intBits_le_64 h1 h2)
theorem bh:OpR X (binaryOp .Add) (rI0 λi j =>.int (i+j)):=zg λ_ _ _ _ _ _ _ q=>add_int q
theorem gh:OpR X (binaryOp .Sub) (rI0 λi j =>.int (i-j)):=zg λ_ _ _ _ _ _ _ q=>sub_int q
theorem hZ:OpR X (binaryOp .Mult) (rI xX λi j =>.int (i*j)):=opI λ_ _ _ _ _ _ _ hc q=>mul_int q hc.ok
theorem mh:OpR X (binaryOp .FloorDiv) (rI CDiv λi j =>.int (i/j)):=opI λi j _ _ _ _ _ hc q=>by
 have h1:(0:Int)<j:=hc.1
 have h2:j<1073741824:=hc.2
 exact floordiv_int (by lia) (by rw[E3 i (by lia)];exact q) (.inl (PyProof.noPylong_small (by lia)))
theorem bP:OpR X (binaryOp .Mod) (rI (λ_ j=>0<j) λi j =>.int (i%j)):=opI λi j _ _ _ _ _ hc q=>by
 have h1:(0:Int)<j:=hc
 exact mod_int' (by lia) (by rw[Int.fmod_eq_emod_of_nonneg i (by lia)];exact q)
theorem eK:OpR X (binaryOp .Pow) (rI CPow λi j =>.int (i ^ j.toNat)):=opI λ_ _ _ _ _ _ _ hc q=>pow_int_small hc.1 hc.2.1 hc.2.2 q
theorem unI {f:z9->Sem z9}{g:Int->Int}
  (rule:∀(i:Int) (t:Tok) (s:Ac) (Q:z9->Ac->Prop) (E:z9->Ac->Prop),Q (.int (g i) s.toks) { s with toks:=s.toks+1 }->AA (AM X.prog X.w) X.A (f (.int i t)) Q E s) :
  UnR X f (rU λi =>.int (g i)):=by
 intro pins s σ H x v Q I rx h
 obtain ⟨i,rfl,q⟩:=h
 obtain ⟨t,rfl⟩:=rx
 exact rule i t s _ _ ⟨.int (g i),H,I.tok _,⟨_,rfl⟩,q⟩
theorem oX:UnR X (unaryOp .USub) (rU λi =>.int (-i)):=unI λ_ _ _ _ _ q=>neg_int q
end
def zh:V->V->Bool
 | .non,.non=>true | .non,.int _=>true | .int _,.non=>true | .non,.bl _=>true | .bl _,.non=>true | .non,.str _=>true | .str _,.non=>true
 | .int _,.int _=>true | .bl _,.bl _=>true | .str _,.str _=>true | .byt _,.byt _=>true
 | .int _,.str _=>true | .str _,.int _=>true | .bl _,.str _=>true | .str _,.bl _=>true
 | _,_=>false
def rEq:R2:=λx y H Q=>zh x y=true/\Q (.bl (decide (x=y))) H
def rNe:R2:=λx y H Q=>zh x y=true/\Q (.bl (!decide (x=y))) H
theorem qi {i j:Int}:decide (V.int i=V.int j)=(i == j):=by
 rw[DK]
 simp
theorem tK {i j:Bool}:decide (V.bl i=V.bl j)=(i == j):=by
 rw[DK]
 simp
theorem qj {i j:Str}:decide (V.str i=V.str j)=(i == j):=by
 rw[DK]
 simp
theorem qk {i j:Array UInt8}:decide (V.byt i=V.byt j)=(i.toList == j.toList):=by
 rw[DK]
 cases i
 cases j
 simp
section
variable  {X:Cx}{a b c:Expr}{ta tb tc:TE}{pos:Pos}
theorem aQ {pins:List (Addr×Obj)}{σ:St}{H:Hp}{s:Ac}{Q:VK}{k k':Bool}(I:Inv X pins σ H s)(q:Q (.bl k) H)(e:k=k'):EP X pins σ Q (.bool k') s:=by
 subst e
 exact ⟨.bl k,H,I,rfl,q⟩
theorem cp:OpR X (BQ .Eq) rEq:=by
 intro pins s σ H x y v u Q I rx ry h
 obtain ⟨hs,q⟩:=h
 cases x with
 | non =>
  cases rx
  cases y with
  | non=>cases ry;exact PySem.EqNone.eq_none_none (aQ I q (by simp))
  | bl j=>cases ry;exact PySem.EqNone.eq_none_bool (aQ I q (by simp))
  | int j=>obtain ⟨t',rfl⟩:=ry;exact PySem.EqNone.eq_none_int (aQ I q (by simp))
  | str j=>obtain ⟨t',rfl⟩:=ry;exact PySem.EqNone.eq_none_str (aQ I q (by simp))
  | _=>exact absurd (show false=true from hs) Ak
 | bl i =>
  cases rx
  cases y with
  | non=>cases ry;exact PySem.EqNone.eq_bool_none (aQ I q (by simp))
  | bl j=>cases ry;exact eq_bool (aQ I q tK)
  | str j=>obtain ⟨t',rfl⟩:=ry;exact HC (aQ I q (by simp))
  | _=>exact absurd (show false=true from hs) Ak
 | int i =>
  obtain ⟨t,rfl⟩:=rx
  cases y with
  | non=>cases ry;exact PySem.EqNone.eq_int_none (aQ I q (by simp))
  | int j=>obtain ⟨t',rfl⟩:=ry;exact eq_int (aQ I q qi)
  | str j=>obtain ⟨t',rfl⟩:=ry;exact HJ (aQ I q (by simp))
  | _=>exact absurd (show false=true from hs) Ak
 | str i =>
  obtain ⟨t,rfl⟩:=rx
  cases y with
  | non=>cases ry;exact PySem.EqNone.eq_str_none (aQ I q (by simp))
  | bl j=>cases ry;exact HD (aQ I q (by simp))
  | int j=>obtain ⟨t',rfl⟩:=ry;exact HK (aQ I q (by simp))
  | str j=>obtain ⟨t',rfl⟩:=ry;exact eq_str (aQ I q qj)
  | _=>exact absurd (show false=true from hs) Ak
 | byt i =>
  obtain ⟨t,rfl⟩:=rx
  cases y with
  | byt j=>obtain ⟨t',rfl⟩:=ry;exact PySem.W.eq_bytes (aQ I q qk)
  | _=>exact absurd (show false=true from hs) Ak
 | _=>cases y <;> exact absurd (show false=true from hs) Ak
theorem jw:OpR X (BQ .NotEq) rNe:=by
 intro pins s σ H x y v u Q I rx ry h
 obtain ⟨hs,q⟩:=h
 cases x with
 | non =>
  cases rx
  cases y with
  | non=>cases ry;exact PySem.EqNone.ne_none_none (aQ I q (by simp))
  | bl j=>cases ry;exact PySem.EqNone.ne_none_bool (aQ I q (by simp))
  | int j=>obtain ⟨t',rfl⟩:=ry;exact PySem.EqNone.ne_none_int (aQ I q (by simp))
  | str j=>obtain ⟨t',rfl⟩:=ry;exact PySem.EqNone.ne_none_str (aQ I q (by simp))
  | _=>exact absurd (show false=true from hs) Ak
 | bl i =>
  cases rx
  cases y with
  | non=>cases ry;exact PySem.EqNone.ne_bool_none (aQ I q (by simp))
  | bl j=>cases ry;exact ne_bool (aQ I q (congrArg not tK))
  | str j=>obtain ⟨t',rfl⟩:=ry;exact HE (aQ I q (by simp))
  | _=>exact absurd (show false=true from hs) Ak
 | int i =>
  obtain ⟨t,rfl⟩:=rx
  cases y with
  | non=>cases ry;exact PySem.EqNone.ne_int_none (aQ I q (by simp))
  | int j=>obtain ⟨t',rfl⟩:=ry;exact ne_int (aQ I q (congrArg not qi))
  | str j=>obtain ⟨t',rfl⟩:=ry;exact HL (aQ I q (by simp))
  | _=>exact absurd (show false=true from hs) Ak
 | str i =>
  obtain ⟨t,rfl⟩:=rx
  cases y with
  | non=>cases ry;exact PySem.EqNone.ne_str_none (aQ I q (by simp))
  | bl j=>cases ry;exact HF (aQ I q (by simp))
  | int j=>obtain ⟨t',rfl⟩:=ry;exact HM (aQ I q (by simp))
  | str j=>obtain ⟨t',rfl⟩:=ry;exact ne_str (aQ I q (congrArg not qj))
  | _=>exact absurd (show false=true from hs) Ak
 | byt i =>
  obtain ⟨t,rfl⟩:=rx
  cases y with
  | byt j=>obtain ⟨t',rfl⟩:=ry;exact PySem.W.ne_bytes (aQ I q (congrArg not qk))
  | _=>exact absurd (show false=true from hs) Ak
 | _=>cases y <;> exact absurd (show false=true from hs) Ak
theorem tL:OpR X (BQ .Lt) (rI0 λi j =>.bl (decide (i<j))):=xW λ_ _ _ _ _ _ _ q=>lt_int q
theorem nF:OpR X (BQ .Gt) (rI0 λi j =>.bl (decide (j<i))):=xW λ_ _ _ _ _ _ _ q=>gt_int q
theorem zi:OpR X (BQ .GtE) (rI0 λi j =>.bl (decide (j<=i))):=xW λ_ _ _ _ _ _ _ q=>ge_int q
theorem tM:OpR X (BQ .Is) (λx y H Q=>y = .non/\Q (.bl (decide (x = .non))) H):=by
 intro pins s σ H x y v u Q I rx ry h
 obtain ⟨rfl,q⟩:=h
 cases ry
 refine is_none_gen (aQ I q ?_)
 cases x <;> first
  | (cases rx;rfl)
  | (obtain ⟨t,rfl⟩:=rx;rfl)
theorem mi:OpR X (BQ .IsNot) (λx y H Q=>y = .non/\Q (.bl (!decide (x = .non))) H):=by
 intro pins s σ H x y v u Q I rx ry h
 obtain ⟨rfl,q⟩:=h
 cases ry
 refine isnot_none_gen (aQ I q ?_)
 cases x <;> first
  | (cases rx;rfl)
  | (obtain ⟨t,rfl⟩:=rx;rfl)
theorem aJ (b:Expr){op:CmpOp}(h:op ≠ .In:=by decide)(h2:op ≠ .NotIn:=by decide):behindInMarks op b=false:=by
 have e1:(op == CmpOp.In)=false:=by cases op <;> first | rfl | exact absurd rfl h
 have e2:(op == CmpOp.NotIn)=false:=by cases op <;> first | rfl | exact absurd rfl h2
 cases b <;> simp[behindInMarks,e1,e2]
theorem ql {op:CmpOp}{r:R2}(ho:OpR X (BQ op) r)(ha:PE X a ta)(hb:PE X b tb)(hm:behindInMarks op b=false):PE X (.Compare a [op] [b] pos) (tOp r ta tb):=by
 intro pins s σ H Q I h
 exact wpAny_Compare1 (xV ha hb I h λv u s2 x y H2 I2 rx ry q=>ho pins s2 σ H2 x y v u Q I2 rx ry q) hm
def zj (t:TE):TT:=λσ H Q=>t σ H λx H'=>∃k,x = .bl k/\Q k H'
theorem av {op:CmpOp}{r:R2}(ho:OpR X (BQ op) r)(ha:PE X a ta)(hb:PE X b tb)(hm:behindInMarks op b=false):PT X (.Compare a [op] [b] pos) (zj (tOp r ta tb)):=by
 intro pins s σ H Q I h
 refine F2 (thn (ha pins s σ H _ I h) λv s1 ⟨x,H1,I1,r1,q1⟩=>thn (hb pins s1 σ H1 _ I1 q1) λu s2 ⟨y,H2,I2,r2,q2⟩ =>
  thn (ho pins s2 σ H2 x y v u _ I2 r1 r2 q2) λc s3 ⟨z,H3,I3,r3,k,e,q3⟩ =>?_) hm
 subst e
 cases r3
 exact B1 ⟨H3,I3,q3⟩
def zk (K:z8)(x:V)(H:Hp)(k:Bool):Prop :=
 match x with
 | .non=>k=false
 | .bl b=>k=b
 | .int i=>k=(i != 0)
 | .str y=>y.length<=Ao/\k=((y.length:Int) != 0)
 | .byt y=>y.size<=Ao/\k=((y.size:Int) != 0)
 | .ref p=>(∃xs,SqL K H p xs/\k = !xs.isEmpty)\/(∃xs,SqT K H p xs/\k = !xs.isEmpty)\/∃kvs,H p=some (.dK kvs)/\k = !kvs.isEmpty
 | _=>False
theorem oY {κ:Type}{kvs:List (κ×V)}{vs:List (κ×z9)}(r:KV kvs vs):(!vs.isEmpty) = !kvs.isEmpty:=by
 cases r <;> rfl
theorem jz {xs:List V}{its:List z9}(r:Vals xs its):(!its.toArray.isEmpty) = !xs.isEmpty:=by
 cases r <;> simp
theorem ia:(Ao:Nat)<2 ^ 63:=by rw[Dq];decide
theorem xY:TruR X (λx H Q=>∃k,zk X.K x H k/\Q k H):=by
 intro pins s σ H x v Q I rx h
 obtain ⟨k,e,q⟩:=h
 have hl:=ia
 have hs:Ao=16777216:=Dq
 cases x with
 | non =>
  cases rx
  have e':k=false:=e
  subst e'
  exact truthy_none ⟨H,I,q⟩
 | bl b =>
  cases rx
  have e':k=b:=e
  subst e'
  exact B1 ⟨H,I,q⟩
 | int i =>
  obtain ⟨t,rfl⟩:=rx
  have e':k=(i != 0):=e
  subst e'
  exact PySem.P.truthy_int ⟨H,I,q⟩
 | str y =>
  obtain ⟨t,rfl⟩:=rx
  obtain ⟨hy,e'⟩:y.length<=Ao/\k=((y.length:Int) != 0):=e
  subst e'
  exact PySem.P.truthy_str (by lia) ⟨H,I.tok _,q⟩
 | byt y =>
  obtain ⟨t,rfl⟩:=rx
  obtain ⟨hy,e'⟩:y.size<=Ao/\k=((y.size:Int) != 0):=e
  subst e'
  exact PySem.W.truthy_bytes (by lia) ⟨H,I.tok _,q⟩
 | ref p =>
  cases rx
  have e':(∃xs,SqL X.K H p xs/\k = !xs.isEmpty)\/(∃xs,SqT X.K H p xs/\k = !xs.isEmpty)\/∃kvs,H p=some (.dK kvs)/\k = !kvs.isEmpty:=e
  rcases e' with ⟨xs,hx,e'⟩ | ⟨xs,hx,e'⟩ | ⟨kvs,hx,e'⟩
  ·subst e'
   obtain ⟨its,r,pl,hz⟩:=I.list hx
   have hlen:=r.length
   exact wpAny_truthy_list pl.isList (by simp only[Ad];lia) ⟨H,I.tok _,by rw[jz r];exact q⟩
  ·subst e'
   obtain ⟨its,r,pl,hz⟩:=I.tuple hx
   have hlen:=r.length
   exact truthy_tuple pl (by simp only[Ad];lia) ⟨H,I.tok _,by rw[jz r];exact q⟩
  ·subst e'
   obtain ⟨hz,hS,vs,r,m⟩:kvs.length<=Ao/\(p == sysModules)=false/\∃vs,KV kvs vs/\s.heap.DictOf (bA X.prog X.w) p vs:=I.hok p _ hx
   have hlen:kvs.length=vs.length:=CO r
   exact wpAny_truthy_dict hS m (by lia) ⟨H,I.tok _,by rw[oY r];exact q⟩
 | _=>exact (show False from e).elim
theorem tN (ha:PE X a ta)(he:∀whole,isTrue a X.env whole=(do let v ← whole;standAt a.pos;EM [v] (truthy v))) :
    PT X a (λσ H Q=>ta σ H λx H'=>∃k,zk X.K x H' k/\Q k H'):=by
  intro pins s σ H Q I h
  exact isTrue_plain (thn (ha pins s σ H _ I h) λv s1 ⟨x,H1,I1,r1,q1⟩=>xY pins s1 σ H1 x v Q I1 r1 q1) (he _)
theorem vals1 {x:V}{us:List z9}(r:Vals [x] us):∃u,us=[u]/\RelV x u:=by
 cases r with
 | cons r1 r2=>cases r2;exact ⟨_,rfl,r1⟩
theorem vals2 {x y:V}{us:List z9}(r:Vals [x,y] us):∃u w',us=[u,w']/\RelV x u/\RelV y w':=by
 cases r with
 | cons r1 r2 =>
  cases r2 with
  | cons r3 r4=>cases r4;exact ⟨_,_,rfl,r1,r3⟩
theorem jA:bM X (.builtin "abs") (λxs H Q=>∃i,xs=[.int i]/\Q (.int (if i<0 then -i else i)) H):=by
 intro pins s σ H xs us Q I r h
 obtain ⟨i,rfl,q⟩:=h
 obtain ⟨u,rfl,t,rfl⟩:=vals1 r
 exact call_abs_int λu tk=>⟨.int (if i<0 then -i else i),H,I.tok _,⟨_,rfl⟩,q⟩
theorem fz (hc:X.calm=true):bM X (.builtin "max") (λxs H Q=>∃i j,xs=[.int i,.int j]/\Q (.int (if j>i then j else i)) H):=by
 intro pins s σ H xs us Q I r h
 obtain ⟨i,j,rfl,q⟩:=h
 obtain ⟨u,w',rfl,⟨t,rfl⟩,⟨t',rfl⟩⟩:=vals2 r
 refine max_two_ints (I.ok.hd hc) λh' tk k=>⟨_,H,I.kept k,?_,q⟩
 by_cases hj:j>i
 ·rw[if_pos hj,if_pos hj];exact ⟨_,rfl⟩
 ·rw[if_neg hj,if_neg hj];exact ⟨_,rfl⟩
theorem kP (hc:X.calm=true):bM X (.builtin "min") (λxs H Q=>∃i j,xs=[.int i,.int j]/\Q (.int (if j<i then j else i)) H):=by
 intro pins s σ H xs us Q I r h
 obtain ⟨i,j,rfl,q⟩:=h
 obtain ⟨u,w',rfl,⟨t,rfl⟩,⟨t',rfl⟩⟩:=vals2 r
 refine min_two_ints (I.ok.hd hc) λh' tk k=>⟨_,H,I.kept k,?_,q⟩
 by_cases hj:j<i
 ·rw[if_pos hj,if_pos hj];exact ⟨_,rfl⟩
 ·rw[if_neg hj,if_neg hj];exact ⟨_,rfl⟩
end
open PySem PySem.Spec PyProof.Rows
structure xZ (h:Heap)(x dx C:Addr)(mA:Str->Option z9):Prop where
 obj:h.get? x=some (PySem.W.instObj C dx)
 ns:h.Ns1 dx mA
 ne:dx≠x
theorem rF {h:Heap}{dx:Addr}{mA:Str->Option z9}(n:h.Ns1 dx mA):∃od,h.get? dx=some od/\∀name,PySem.W.lookIn name od=some (mA name):=by
 obtain ⟨o,es,ep,ho,hd,hk,_,hm⟩:=n
 refine ⟨o,ho,λname =>?_⟩
 have e:=hm name
 unfold nsFind findBy at e
 rw[<- Array.find?_toList] at e
 unfold PySem.W.lookIn
 rw[hd]
 dsimp only
 split
 ·rename_i y q
  rw[q] at e
  exact congrArg some e
 ·rename_i q
  rw[q] at e
  have a:es.toList.any (·.refKey)=false:=by
   rw[List.any_eq_false]
   intro y hy
   obtain ⟨z,t,hkey⟩:=hk y (BN.mp hy)
   simp[DictEntry.refKey,hkey]
  have a':¬ es.toList.any (·.refKey)=true:=by rw[a];exact Ak
  rw[if_neg a']
  exact congrArg some e
theorem xZ.look {h:Heap}{x dx C:Addr}{mA:Str->Option z9}(I:xZ h x dx C mA):∃od,PySem.W.InstAt h x (PySem.W.instObj C dx) C (some od)/\∀name,PySem.W.lookIn name od=some (mA name) :=
 let ⟨od,ho,hl⟩:=rF I.ns
 ⟨od,⟨I.obj,rfl,rfl,ho⟩,hl⟩
section
variable  {prog:Au}{w:AV}{A:Bd}{E:z9->Ac->Prop}{s:Ac}{K:z8}{x dx C f:Addr}{mA:Str->Option z9}{name:Str}{v:z9}
end
theorem jt.some_of {v:V}{o:Option z9}(r:jt (some v) o):∃u,o=some u/\RelV v u:=by
 cases o with
 | none=>exact (show False from r).elim
 | some u=>exact ⟨u,rfl,r⟩
section
variable  {P:Au}{w:AV}{H H':Hp}{h h':Heap}{a C dx:Addr}{fs fs':List (Str×V)}
theorem vG (hok:HOk P w H h)(e:H a=some (.ins C dx fs)):∃mA,xZ h a dx C mA/\(∀f,jt (fs.lookup f) (mA f))/\PySem.Within mA (fs.map (·.1))/\fs.length<=1000/\H dx=some (.own a):=by
 obtain ⟨d,z,ne,ob,mA,n,r,q⟩:=(show a6 P w H h a (.ins C dx fs) from hok a _ e)
 exact ⟨mA,⟨ob,n,ne⟩,r,q,z,d⟩
end
structure Cls (K:z8)(C:Addr):Prop where
 pg:PySem.W.plainGet K C Str.empty=true
 hd:PySem.W.hasDictIn K C=true
 po:PySem.W.plainOver K C=true
 sa:PySem.W.findIn K (.ref C) "__setattr__" = some (some (.builtin "object.__setattr__"))
theorem Cls.get {K:z8}{C:Addr}(c:Cls K C)(f:Str):PySem.W.plainGet K C f=true:=c.pg
section
variable  {X:Cx}{pins:List (Addr×Obj)}{σ:St}{H:Hp}{s:Ac}{a C dx:Addr}{fs:List (Str×V)}{f:Str}{v:V}{A:Bd}{E:z9->Ac->Prop}
end
section
variable  {X:Cx}{o e value:Expr}{f:Str}{pos pos' tpos:Pos}{ta tv:TE}
end
section
variable  {X:Cx}{pins:List (Addr×Obj)}{σ:St}{H:Hp}{s:Ac}{A:Bd}{E:z9->Ac->Prop}{Q:z9->Ac->Prop}{c:z9}{b:Bool}
inductive ib (K:z8)(H:Hp):V->z9->Prop where
 | non:ib K H .non (.type "NoneType")
 | bl (x:Bool):ib K H (.bl x) (.type "bool")
 | int (i:Int):ib K H (.int i) (.type "int")
 | str (x:Str):ib K H (.str x) (.type "str")
 | flt (x:UInt64):ib K H (.flt x) (.type "float")
 | lst {a:Addr} {xs:List V} (e:H a=some (.lst xs)):ib K H (.ref a) (.type "list")
 | frz {a:Addr} {o:Obj} {xs:List V} (e:H a=some (.frz o (.lst xs))):ib K H (.ref a) (.type "list")
 | tup {a:Addr} {xs:List V} (e:H a=some (.tup xs)):ib K H (.ref a) (.type "tuple")
 | dK {a:Addr} {kvs:List (Key×V)} (e:H a=some (.dK kvs)):ib K H (.ref a) (.type "dict")
 | dT {a:Addr} {kvs:List (List Key×V)} (e:H a=some (.dT kvs)):ib K H (.ref a) (.type "dict")
 | ins {a C dx:Addr} {fs:List (Str×V)} (e:H a=some (.ins C dx fs)) (cl:Cls K C) (ha:PySem.W.findIn K (.ref C) "__class__" = some (some (.builtin "object.__class__")))
   (hn:PySem.W.specialIn K (.builtin "object.__class__") "__get__" = some (some (.builtin "getset_descriptor.__get__"))) (htk:PySem.W.takesIn K (.builtin "object.__class__")=some true)
   (hm:PySem.W.mroIn K C (.type "object")=some true):ib K H (.ref a) (.ref C)
theorem rG {x:V}{u t:z9}(I:Inv X pins σ H s)(rx:RelV x u)(ty:ib X.K H x t)(e:PySem.W.kitOne X.K t c=some b)(h:∀tk,Q (.bool b) { s with toks:=tk }) :
  AA (AM X.prog X.w) A (call (.builtin "isinstance") [u,c]) Q E s:=by
 cases ty with
 | non=>cases (show u=CZ from rx);exact BR PySem.W.kitx_none I.kIn True.intro e (λz=>nomatch z) h
 | bl y=>cases (show u=Value.bool y from rx);exact BR PySem.W.kitx_bool I.kIn True.intro e (λz=>nomatch z) h
 | int i=>obtain ⟨t,q⟩:=(show ∃t,u=Cb i t from rx);cases q;exact BR PySem.W.kitx_int I.kIn True.intro e (λz=>nomatch z) h
 | str y=>obtain ⟨t,q⟩:=(show ∃t,u=Value.str y t from rx);cases q;exact BR PySem.W.kitx_str I.kIn True.intro e (λz=>nomatch z) h
 | flt y=>obtain ⟨t,q⟩:=(show ∃t,u=Value.float y t from rx);cases q;exact BR PySem.W.kitx_float I.kIn True.intro e (λz=>nomatch z) h
 | @lst a xs ea =>
  cases (show u=Ar a from rx)
  obtain ⟨_,_,n,_,h1⟩:=(show a6 X.prog X.w H s.heap a (.lst xs) from I.hok a _ ea)
  exact BR GX I.kIn ⟨_,h1,rfl⟩ e (λz=>nomatch z) h
 | @frz a ob xs ea =>
  cases (show u=Ar a from rx)
  obtain ⟨_,_,_,n,_,h1⟩:=(show a6 X.prog X.w H s.heap a (.frz ob (.lst xs)) from I.hok a _ ea)
  exact BR GX I.kIn ⟨_,h1,rfl⟩ e (λz=>nomatch z) h
 | @tup a xs ea =>
  cases (show u=Ar a from rx)
  obtain ⟨_,_,_,p⟩:=(show a6 X.prog X.w H s.heap a (.tup xs) from I.hok a _ ea)
  obtain ⟨o,h1,h2,_⟩:=p
  exact BR Gz I.kIn ⟨o,h1,h2.1⟩ e (λz=>nomatch z) h
 | @dK a kvs ea =>
  cases (show u=Ar a from rx)
  obtain ⟨_,_,vs,_,p⟩:=(show a6 X.prog X.w H s.heap a (.dK kvs) from I.hok a _ ea)
  obtain ⟨o,es,ep,h1,h2,_⟩:=p
  exact BR GY I.kIn ⟨o,h1,h2.1⟩ e (λz=>nomatch z) h
 | @dT a kvs ea =>
  cases (show u=Ar a from rx)
  obtain ⟨_,_,xs,_,o,es,ep,h1,h2,_⟩:=(show a6 X.prog X.w H s.heap a (.dT kvs) from I.hok a _ ea)
  exact BR GY I.kIn ⟨o,h1,h2.1⟩ e (λz=>nomatch z) h
 | @ins a C dx fs ea cl ha hn htk hm =>
  cases (show u=Ar a from rx)
  obtain ⟨mA,O,_⟩:=vG I.hok ea
  obtain ⟨od,J,_⟩:=O.look
  exact BR (PySem.W.kitx_own (cl.get _) cl.hd ha hn htk hm) I.kIn J e (λz=>nomatch z) h
end
open PySem PySem.Spec PyProof.Rows
structure cg (k:Nat)(A:Bd):Prop where
 hd:A.handled=none
 dp:A.depth+3*k+5<recursionLimit
 un:A.units+16*k+200<cLine
theorem cg.mono {j k:Nat}{A:Bd}(r:cg k A)(h:j<=k):cg j A:=⟨r.hd,by have:=r.dp;lia,by have:=r.un;lia⟩
theorem cg.deeper {k:Nat}{A:Bd}(r:cg (k+1) A)(env:Env):cg k (A.deeper env) :=
 ⟨r.hd,by have:=r.dp;show A.depth+1+3*k+5<_;lia,by have:=r.un;show A.units+3+16*k+200<_;lia⟩
theorem cg.depth {k:Nat}{A:Bd}(r:cg k A):A.depth<recursionLimit:=by have:=r.dp;lia
theorem cg.units {k:Nat}{A:Bd}(r:cg k A):A.units+64<cLine:=by have:=r.un;lia
def tNil:TA:=λ_ H Q=>Q [] H
def zo (ta:TE)(tr:TA):TA:=λσ H Q=>ta σ H λx H1=>tr σ H1 λxs H2=>Q (x :: xs) H2
section
variable  {X:Cx}{e:Expr}{es:List Expr}{te:TE}{t:TA}{pos:Pos}
theorem af:PA X [] tNil:=λ_ _ _ _ H Q I h=>GZ ⟨[],H,I,.nil,h⟩
theorem aa (ha:PE X e te)(hr:PA X es t)(hs:Bt (e :: es) X.env=(false,eval e X.env) :: Bt es X.env:=by rfl):PA X (e :: es) (zo te t):=by
 intro pos pins s σ H Q I h
 rw[hs]
 show AA _ _ (spliced ((false,eval e X.env) :: Ez pos (Bt es X.env))) _ _ s
 refine GA (thn (ha pins s σ H _ I h) λu s1 ⟨x,H1,I1,r1,q1⟩ =>?_)
 exact thn (hr pos pins s1 σ H1 _ I1 q1) λus s2 ⟨xs,H2,I2,r2,q2⟩=>⟨x :: xs,H2,I2,.cons r1 r2,q2⟩
def tTup (t:TA):TE:=λσ H Q=>t σ H λxs H1=>xs.length<=Ao/\∀p,H1 p=none->Q (.ref p) (upd H1 p (.tup xs))
def tLst (t:TA):TE:=λσ H Q=>t σ H λxs H1=>xs.length<=Ao/\∀p,H1 p=none->Q (.ref p) (upd H1 p (.lst xs))
theorem bC {x1}(h:PA X es t):PE X (.Tuple es x1 pos) (tTup t):=by
 intro pins s σ H Q I hq
 refine wpAny_Tuple_spliced (thn (h pos pins s σ H _ I hq) λus s1 ⟨xs,H1,I1,r,z,q⟩=>⟨by rw[<- r.length];exact z,?_⟩)
 have hf:H1 s1.heap.objs.size=none:=I1.hok.fresh (Ag _)
 refine ⟨.ref s1.heap.objs.size,upd H1 s1.heap.objs.size (.tup xs),I1.laid (t':=s1.toks) (λb u e=>zZ _ e) (Ag _) ?_,rfl,q _ hf⟩
 exact ⟨z,us,r,⟨_,Am _ rfl,⟨rfl,rfl⟩,_,rfl⟩⟩
theorem cJ (h:PA X es t):PE X (.List es pos) (tLst t):=by
 intro pins s σ H Q I hq
 refine wpAny_List_spliced (thn (h pos pins s σ H _ I hq) λus s1 ⟨xs,H1,I1,r,z,q⟩=>⟨by rw[<- r.length];exact z,?_⟩)
 have hf:H1 s1.heap.objs.size=none:=I1.hok.fresh (Ag _)
 refine ⟨.ref s1.heap.objs.size,upd H1 s1.heap.objs.size (.lst xs),I1.laid (t':=s1.toks) (λb u e=>zZ _ e) (Ag _) ?_,rfl,q _ hf⟩
 exact ⟨z,us,0,r,Am _ rfl⟩
end
abbrev Sp:=List V->Hp->VK->XK->Prop
abbrev CXT:=List Env->Hp->Ac->XK->z9->Ac->Prop
structure vH (P:Au)(w:AV)(K:z8)(mg:Str->Option z9)(base:Heap)(A:Bd)(outer:List Env)(s:Ac)(H:Hp):Prop where
 frames:A.frames=some outer
 mod:Mod K mg base
 bs:∀b o,base.get? b=some o->s.heap.get? b=some o/\H b=none
 bsz:base.objs.size<=s.heap.objs.size
 funs:s.heap.FunFrames base outer
 frf:∀b∈frs outer,H b=none
 hok:HOk P w H s.heap
 bare:AllBare s.gens
def CE (outer:List Env)(P:Au)(w:AV)(H:Hp)(s:Ac)(Q:VK)(u:z9)(s':Ac):Prop :=
 ∃v H',s'.os=s.os/\AllBare s'.gens/\Un (frs outer) [] H H' s.heap s'.heap/\HOk P w H' s'.heap/\RelV v u/\Q v H'
def CR (CX:CXT)(outer:List Env)(P:Au)(w:AV)(H:Hp)(s:Ac)(Q:VK)(E:XK)(r:Result)(s':Ac):Prop :=
 match r with
 | .ok (.ret u)=>CE outer P w H s Q u s'
 | .ok _=>False
 | .error e=>CX outer H s E e s'
structure a7 (P:Au)(w:AV)(K:z8)(mg:Str->Option z9)(base:Heap)(CX:CXT)(k:Nat)(f:Addr)(fd:A3)(ps:List Str)(sp:Sp):Prop where
 len:∀vs H Q E,sp vs H Q E->vs.length=ps.length
 run:∀(A:Bd) (outer:List Env) (s:Ac) (H:Hp) (args:Args) (us:List z9) (vs:List V) (Q:VK) (E:XK),cg k A->vH P w K mg base A outer s H->BindsTo s fd args (ps.zip us)->Vals vs us->sp vs H Q E →
  Ew (AM P w) A (.call (.ref f) args) (CR CX outer P w H s Q E) s
section
variable  {X:Cx}{pins:List (Addr×Obj)}{σ:St}{H:Hp}{s s':Ac}
theorem Inv.env0 (I:Inv X pins σ H s):vH X.prog X.w X.K X.mg X.base X.A X.stack s H :=
 ⟨I.ok.frames,I.ok.mod,I.bs,A4 I.ok.bsz I.sz,I.stack,I.qf,I.hok,I.bare⟩
theorem Inv.after {Q:VK}{u:z9}(I:Inv X pins σ H s)(h:CE X.stack X.prog X.w H s Q u s'):EP X pins σ Q u s':=by
 obtain ⟨v,H',os,bare,un,hok,r,q⟩:=h
 obtain ⟨hh,g,d,t,os'⟩:=s'
 obtain rfl:os'=s.os:=os
 exact ⟨v,H',I.call (h':=hh) (g':=g) (d':=d) (t':=t) (ch:=[]) un hok bare (λb z=>absurd z (by simp)),r,q⟩
end
def tO (sp:Sp)(dvs:List V)(E:XK)(t:TA):TE:=λσ H Q=>t σ H λvs H1=>sp (vs++dvs) H1 Q E
def Binds (K:z8)(fd:A3)(ps:List Str)(ds:List z9):Prop :=
 ∀(s:Ac) (us:List z9),K.In s.heap->(us++ds).length=ps.length->BindsTo s fd ⟨us,[]⟩ (ps.zip (us++ds))
theorem Binds.all {K:z8}{fd:A3}{ps:List Str}(h:∀us:List z9,us.length=ps.length->bindArgs fd ⟨us,[]⟩=pure (ps.zip us)):Binds K fd ps []:=λs us _ hl=>by
 rw[AU] at hl ⊢
 exact .of_eq (h us hl)
def Passes (CX:CXT)(X:Cx)(E:XK):Prop:=∀(pins:List (Addr×Obj)) (σ:St) (H:Hp) (s:Ac) (e:z9) (s':Ac),Inv X pins σ H s->CX X.stack H s E e s'->X.xe e s'
section
variable  {X:Cx}{CX:CXT}{k:Nat}{f C:Addr}{fd:A3}{ps:List Str}{sp:Sp}{dvs:List V}{ds:List z9}{E:XK}{x m:Str}{p pos apos:Pos}{e o:Expr}{es:List Expr}{ta:TE}{t:TA}
theorem x6 {pins:List (Addr×Obj)}{σ:St}{H:Hp}{s:Ac}{Q:VK}{us:List z9}{vs:List V}(F:a7 X.prog X.w X.K X.mg X.base CX k f fd ps sp)(hr:cg k X.A)(hb:Binds X.K fd ps ds)(hd:Vals dvs ds)(hx:Passes CX X E)
  (I:Inv X pins σ H s) (r:Vals vs us) (h:sp (vs++dvs) H Q E):AA (AM X.prog X.w) X.A (call (.ref f) us) (EP X pins σ Q) X.xe s:=by
 have r2:Vals (vs++dvs) (us++ds):=r.append hd
 have hl:(us++ds).length=ps.length:=by rw[<- r2.length];exact F.len _ _ _ _ h
 refine Ha (Ei (F.run X.A X.stack s H ⟨us,[]⟩ (us++ds) (vs++dvs) Q E hr I.env0 (hb s us I.kIn hl) r2 h) λr s' hq =>?_)
 cases r with
 | error e=>exact hx pins σ H s e s' I hq
 | ok fl =>
  cases fl with
  | ret u=>exact I.after hq
  | next=>exact False.elim hq
  | brk=>exact False.elim hq
  | cont=>exact False.elim hq
theorem qm (F:a7 X.prog X.w X.K X.mg X.base CX k f fd ps sp)(hr:cg k X.A)(hg:Gl X x)(hm:X.mg x=some (.ref f))(hk:PySem.W.keepIn X.K (.ref f)=true)(hb:Binds X.K fd ps ds)(hd:Vals dvs ds)(hx:Passes CX X E)
  (ha:PA X (e :: es) t) (hdb:(x == ("__debug__" : Str))=false:=by decide) (he:Bt (e :: es) X.env=(false,eval e X.env) :: Bt es X.env:=by rfl) (hpl:(Ez pos (Bt es X.env)).any (·.1)=false:=by rfl) :
  PE X (.Call (.Name x p) (e :: es) [] pos) (tO sp dvs E t):=by
 intro pins s σ H Q I h
 refine Dl (qg I hg hm ?_ hdb)
 refine PySem.W.callWith_K (h₀:=X.base) I.ok.mod.kin hk (thn (ha pos pins s σ H _ I h) λus s1 ⟨vs,H1,I1,r,q⟩=>⟨I1.kIn,?_⟩) he hpl
 exact x6 F hr hb hd hx I1 r q
end
section
variable  {X:Cx}{CX:CXT}{k:Nat}{f C:Addr}{fd:A3}{ps ks:List Str}{sp:Sp}{E:XK}{x m:Str}{p pos apos kpos:Pos}{e o:Expr}{es:List Expr}{kws:List Keyword}{te ta:TE}{t tk:TA}{nm:Option Str}
variable  {g:List z9->List z9->List z9}{gV:List V->List V->List V}
end
structure aE (N P:List Str)(sc:Scope):Prop where
 kind:sc.kind = .function
 co:sc.isCoroutine=false
 gen:sc.isGenerator=false
 nd:N.Nodup
 pre:N.take P.length=P
 par:∀x∈P,sc.names.lookup x=some .local\/sc.names.lookup x=some .cell
 nofree:∀y∈sc.names,y.2 ≠ .free
theorem kQ {kindOf:Str->Option NameKind}{x:Str}:∀{binds:List (Str×z9)} {m:Str->Option z9},(∀v,(x,v)∉binds)->bindL kindOf binds m x=m x
 | [],_,_=>rfl
 | (n,v) :: r,m,h=>by
  unfold bindL
  rw[kQ λw hw=>h w (AK _ hw)]
  split
  ·have:x≠n:=by rintro rfl;exact h v AN
   simp[this]
  ·rfl
theorem kR {kindOf:Str->Option NameKind}{x:Str}:∀{binds:List (Str×z9)} {m:Str->Option z9},(∀v,(x,v)∉binds)->bindC kindOf binds m x=m x
 | [],_,_=>rfl
 | (n,v) :: r,m,h=>by
  unfold bindC
  rw[kR λw hw=>h w (AK _ hw)]
  split
  ·rfl
  ·have:x≠n:=by rintro rfl;exact h v AN
   simp[this]
theorem kS {kindOf:Str->Option NameKind}{x:Str}{v:z9}:∀{P:List Str} {vs:List z9} {i:Nat} {m:Str->Option z9},P.Nodup->P[i]? = some x->vs[i]? = some v->kindOf x=some .local →
  bindL kindOf (P.zip vs) m x=some v
 | [],_,_,_,_,h,_,_=>by simp at h
 | _ :: _,[],_,_,_,_,h,_=>by simp at h
 | p :: P,w :: vs,0,m,nd,h1,h2,hk=>by
  simp at h1 h2;subst h1;subst h2
  show bindL kindOf ((p,w) :: P.zip vs) m p=_
  unfold bindL
  rw[kQ λv hv=>(C2.mp nd).1 (FR hv).1,if_pos hk]
  simp
 | p :: P,w :: vs,i+1,m,nd,h1,h2,hk=>by
  show bindL kindOf ((p,w) :: P.zip vs) m x=_
  unfold bindL
  exact kS (i:=i) (C2.mp nd).2 (by simpa using h1) (by simpa using h2) hk
theorem kT {kindOf:Str->Option NameKind}{x:Str}{v:z9}:∀{P:List Str} {vs:List z9} {i:Nat} {m:Str->Option z9},P.Nodup->P[i]? = some x->vs[i]? = some v->kindOf x≠some .local →
  bindC kindOf (P.zip vs) m x=some v
 | [],_,_,_,_,h,_,_=>by simp at h
 | _ :: _,[],_,_,_,_,h,_=>by simp at h
 | p :: P,w :: vs,0,m,nd,h1,h2,hk=>by
  simp at h1 h2;subst h1;subst h2
  show bindC kindOf ((p,w) :: P.zip vs) m p=_
  unfold bindC
  rw[kR λv hv=>(C2.mp nd).1 (FR hv).1,if_neg hk]
  simp
 | p :: P,w :: vs,i+1,m,nd,h1,h2,hk=>by
  show bindC kindOf ((p,w) :: P.zip vs) m x=_
  unfold bindC
  exact kT (i:=i) (C2.mp nd).2 (by simpa using h1) (by simpa using h2) hk
def start (N:List Str)(vs:List V):St:=vs.map some++AX (N.length-vs.length) none
def iU (CX:CXT)(P:Au)(w:AV)(K:z8)(mg:Str->Option z9)(base:Heap)(N:List Str)(qual:Str)(scope:Scope)(f:Addr)(cd:z9)(A:Bd)(outer:List Env)(s:Ac)(H:Hp)(E:XK):Cx where
 prog:=P
 w:=w
 K:=K
 mg:=mg
 base:=base
 A:=A.deeper (envOfC qual scope s.heap.objs.size f cd)
 N:=N
 s₀:=s
 H₀:=H
 env:=envOfC qual scope s.heap.objs.size f cd
 outer:=outer
 stack:=envOfC qual scope s.heap.objs.size f cd :: outer
 ex:=[]
 calm:=true
 fn:=λ_=>true
 pn:=[]
 xe:=λe s'=>AA (AM P w) (A.deeper (envOfC qual scope s.heap.objs.size f cd)) (leaving (envOfC qual scope s.heap.objs.size f cd) e) (λ_ s''=>CX outer H s E e s'') (λe' s''=>CX outer H s E e' s'') s'
theorem nG {sc:Scope}{n:Nat}{x:Str}(h:sc.names.lookup x=some .cell):∃c,(cellsFrom n sc.names []).lookup x=some c:=by
 have q:=FI sc.names n [] (.inl h)
 exact Ed.mp q
theorem rH {CX:CXT}{P:Au}{w:AV}{K:z8}{mg:Str->Option z9}{base:Heap}{N ps:List Str}{qual:Str}{scope:Scope}{f:Addr}{cd:z9}{A:Bd}{outer:List Env}{s s1:Ac}{H:Hp}{E:XK}{us:List z9}{vs:List V}
  (S:aE N ps scope) (hd:A.handled=none) (e0:vH P w K mg base A outer s H) (hl:vs.length=ps.length) (r:Vals vs us)
  (x:InCallC s s.heap.objs.size (bindL (envOfC qual scope s.heap.objs.size f cd).kindOf (ps.zip us) λ_=>none) (cellsFrom (s.heap.objs.size+1) scope.names []) (bindC (envOfC qual scope s.heap.objs.size f cd).kindOf (ps.zip us) λ_=>none) s1) :
  Inv (iU CX P w K mg base N qual scope f cd A outer s H E) [] (start N vs) H s1:=by
 have hpl:ps.length<=N.length:=by have:=congrArg List.length S.pre;rw[Bf] at this;lia
 obtain ⟨h1,tk,rfl,hk⟩:=x.done
 have noA:∀b:Addr,b∉(iU CX P w K mg base N qual scope f cd A outer s H E).ex:=λb z=>absurd (show b∈([]:List Addr) from z) (by simp)
 refine ⟨⟨e0.mod,S.kind,rfl,rfl,Ag _,λy z c h1 h2 =>?_,λy hy =>?_,λy c _ h =>?_,λ_=>hd,Around.frames_deeper e0.frames,.inr ⟨rfl,rfl⟩,λb z=>absurd z (noA b),e0.bs,e0.bsz,λb _ _=>noA b,λb z=>absurd z (noA b),e0.funs,e0.frf⟩,
  rfl,e0.bare,Un.kept hk,⟨_,x.toInCall.ns,λi y v h1 h2 h3 =>?_⟩,λy c h=>⟨_,x.cell y c h⟩,e0.hok.fresh (Ag _),λy c h =>?_,λp hp=>absurd (show p∈([]:List (Addr×Obj)) from hp) (by simp),e0.hok.kept hk,?_⟩
 ·exact name_of_addr x.apart (C3 h1) (C3 h2)
 ·have hy:scope.names.lookup y=some .cell\/scope.names.lookup y=some .free:=hy
  rcases hy with hy | hy
  ·exact nG hy
  ·exact absurd rfl (S.nofree _ (C3 hy))
 ·exact DC (x.above y c (C3 h))
 ·have hi:i<vs.length:=by
   unfold start at h2
   by_cases hi:i<vs.length
   ·exact hi
   ·rw[A0 (by simpa using hi)] at h2
    rw[Ek] at h2
    split at h2 <;> cases h2
  have ha:vs[i]? = some v:=by
   unfold start at h2
   rw[AW (by simpa using hi),Aw] at h2
   cases e:vs[i]? with
   | none=>rw[e] at h2;cases h2
   | some a=>rw[e] at h2;cases h2;rfl
  obtain ⟨u,hu,rv⟩:=r.get ha
  have hp:ps[i]? = some y:=by
   rw[<- S.pre,List.getElem?_take_of_lt (by lia)];exact h1
  have ndP:ps.Nodup:=by rw[<- S.pre];exact S.nd.sublist (BL _ _)
  refine ⟨u,rv,?_⟩
  rcases S.par y (Aj hp) with k | k
  ·exact .inl ⟨k,kS ndP hp hu k⟩
  ·obtain ⟨c,e⟩:=nG (n:=s.heap.objs.size+1) k
   refine .inr ⟨.inl k,c,e,?_⟩
   have q:=x.cell y c e
   rw[kT ndP hp hu (by show scope.names.lookup y≠_;rw[k];decide)] at q
   exact q
 ·exact e0.hok.fresh (DC (x.above y c (C3 h)))
 ·unfold start
  show _=N.length
  rw[Ae,z4,Di]
  lia
theorem xr {CX:CXT}{P:Au}{w:AV}{K:z8}{mg:Str->Option z9}{base:Heap}{k:Nat}{f:Addr}{name qual:Str}{params:Arguments}{body:List Stmt}{scope:Scope}{dV kV doc pm cdv ct oc:z9}{an od:Option Addr}
  {osl:Array (Option z9)} {N ps:List Str} {sp:Sp} (lk:K.lookup f=some ⟨oc,od,.func (PySem.W.fnOf name qual params body scope dV kV doc pm an cdv ct),osl⟩) (hcd:PySem.W.codeIn K cdv qual=true) (S:aE N ps scope)
  (len:∀vs H Q E,sp vs H Q E->vs.length=ps.length)
  (hbody:∀(A:Bd) (outer:List Env) (s:Ac) (H:Hp) (vs:List V) (Q:VK) (E:XK),cg k (A.deeper (envOfC qual scope s.heap.objs.size f cdv))->sp vs H Q E →
   ∃t,PSs (iU CX P w K mg base N qual scope f cdv A outer s H E) body t/\t { nx:=λ_ H'=>Q .non H',rt:=Q } (start N vs) H) :
  a7 P w K mg base CX (k+1) f (PySem.W.fnOf name qual params body scope dV kV doc pm an cdv ct) ps sp:=by
 refine ⟨len,λA outer s H args us vs Q E hr e0 hb r hsp =>?_⟩
 have hl:=len _ _ _ _ hsp
 have KX:K.In s.heap:=e0.mod.kin.keeps λb o e=>(e0.bs b o e).1
 have lim:s.heap.NoLimit:=e0.mod.nolimit.keeps λb o e=>(e0.bs b o e).1
 have hkind:∀y∈ps.zip us,scope.names.lookup y.1=some .local\/(scope.names.lookup y.1=some .cell/\((cellsFrom (s.heap.objs.size+1) scope.names []).lookup y.1).isSome=true):=λ⟨n,v⟩ hy=>by
  rcases S.par n (FR hy).1 with q | q
  ·exact .inl q
  ·exact .inr ⟨q,FI _ _ _ (.inl q)⟩
 refine codeAny_call_function hr.depth (KX _ _ lk) rfl S.co S.gen rfl (PySem.W.codeRec_of KX hcd) (hb _ _ _ _ ?_)
 refine wpAny_newFunctionEnv_cells S.kind hkind λenv he s1 x =>?_
 subst he
 refine ⟨lim.keeps x.toInCall.keep,codeAny_func ?_⟩
 obtain ⟨t,ht,hq⟩:=hbody A outer s H vs Q E (hr.deeper _) hsp
 have I:Inv (iU CX P w K mg base N qual scope f cdv A outer s H E) [] (start N vs) H s1:=rH S hr.hd e0 hl r x
 refine Cz (ht [] s1 (start N vs) H _ I hq) (λfl s' hs =>?_) λe s' hs=>hs
 have fin:∀{σ':St} {H':Hp} {v:V} {u:z9},Inv (iU CX P w K mg base N qual scope f cdv A outer s H E) [] σ' H' s'->RelV v u->Q v H'->CE outer P w H s Q u s' :=
  λ{σ' H' v u} J rv q=>⟨v,H',J.os,J.bare,J.base,J.hok,rv,q⟩
 cases fl with
 | ret u =>
  obtain ⟨v,σ',H',J,rv,q⟩:=hs
  exact fin J rv q
 | next =>
  obtain ⟨σ',H',J,q⟩:=hs
  exact fin (v:=V.non) (u:=CZ) J rfl q
 | brk =>
  obtain ⟨_,_,_,q⟩:=hs
  exact False.elim q
 | cont =>
  obtain ⟨_,_,_,q⟩:=hs
  exact False.elim q
open PySem PySem.Spec PyProof.Rows
section
variable  {X:Cx}{x:Str}{p pos:Pos}{e:Expr}{es:List Expr}{t:TA}{id T:String}{r:List V->Hp->VK->Prop}
def tCB (r:List V->Hp->VK->Prop)(t:TA):TE:=λσ H Q=>t σ H λvs H1=>r vs H1 Q
theorem aB (hc:bM X (.builtin id) r)(hg:Gl X x)(hm:X.mg x=none)(hv:Bz x=some (.builtin id))(ha:PA X (e :: es) t)(hn:x ≠ "__name__" := by decide)(hdb:(x == ("__debug__" : Str))=false:=by decide)
  (he:Bt (e :: es) X.env=(false,eval e X.env) :: Bt es X.env:=by rfl) (hpl:(Ez pos (Bt es X.env)).any (·.1)=false:=by rfl):PE X (.Call (.Name x p) (e :: es) [] pos) (tCB r t):=by
 intro pins s σ H Q I h
 refine Dl (eF I hg hm hv ?_ hn hdb)
 exact PyProof.Rows.callWith_builtin1 (thn (ha pos pins s σ H _ I h) λus s1 ⟨vs,H1,I1,r1,q1⟩=>hc pins s1 σ H1 vs us Q I1 r1 q1) he hpl
theorem bj (hc:bM X (.type T) r)(hg:Gl X x)(hm:X.mg x=none)(hv:Bz x=some (.type T))(ha:PA X (e :: es) t)(hn:x ≠ "__name__" := by decide)(hdb:(x == ("__debug__" : Str))=false:=by decide)
  (he:Bt (e :: es) X.env=(false,eval e X.env) :: Bt es X.env:=by rfl) (hpl:(Ez pos (Bt es X.env)).any (·.1)=false:=by rfl):PE X (.Call (.Name x p) (e :: es) [] pos) (tCB r t):=by
 intro pins s σ H Q I h
 refine Dl (eF I hg hm hv ?_ hn hdb)
 exact C1 (thn (ha pos pins s σ H _ I h) λus s1 ⟨vs,H1,I1,r1,q1⟩=>hc pins s1 σ H1 vs us Q I1 r1 q1) he hpl
end
end L2
namespace HT
open PySem PyProof.Rows
def lexLt:List Int->List Int->Bool
 | [],[]=>false
 | [],_ :: _=>true
 | _ :: _,[]=>false
 | x :: xs,y :: ys=>if x=y then lexLt xs ys else decide (x<y)
theorem cU (x y:Int)(xs ys:List Int):lexLt (x :: xs) (y :: ys)=if x=y then lexLt xs ys else decide (x<y):=rfl
theorem ko:lexLt [] []=false:=rfl
theorem jB (y:Int)(ys:List Int):lexLt [] (y :: ys)=true:=rfl
theorem jC (x:Int)(xs:List Int):lexLt (x :: xs) []=false:=rfl
theorem tP (A:Bd)(s:Ac)(a:Int)(t:Tok)(c:Int)(u:Tok):∃e,C0 A s (.int a t) (.int c u) e/\(e=true↔a=c) :=
 ⟨(a == c),Dj a t c u,by simp⟩
theorem nH (A:Bd)(s:Ac)(a:Int)(t:Tok)(c:Int)(u:Tok)(prog:Au)(w:AV)(E:z9->Ac->Prop)(Q:z9->Ac->Prop)(h:Q (.bool (decide (a<c))) s) :
  AA (AM prog w) A (richCompare .Lt (.int a t) (.int c u)) Q E s :=
 (PyProof.Rows.lt_int h:AA (AM prog w) A (BQ .Lt (.int a t) (.int c u)) Q E s)
section
open PySem.SeqAt
open PySem.AutoSeq1 (wpAny_loadPart')
open PySem.MeetsSeq PySem.MeetsSeq2 PySem.MeetsSeq3
theorem kq (l b:Addr)(items items2:Array z9)(n n2:Nat)(dd dd2:Option Addr)(sl sl2:Array (Option z9))(ns ms:List Int)(hi:CA items.toList ns)(hj:CA items2.toList ms) :
  Meets (Builtin.«tuple.__lt__» ⟨[.ref l,.ref b],[]⟩)
   (λ_ R s=>s.heap.get? l=some { cls :=.type "tuple",dict:=dd,data :=.seq items n,slots:=sl }/\s.heap.get? b=some { cls :=.type "tuple",dict:=dd2,data :=.seq items2 n2,slots:=sl2 } ∧
    R (.ok (.ret (.bool (lexLt ns ms)))) s) :=
 .of_wp λprog w A R s h=>by
  obtain ⟨hp,g,d,tk,os⟩:=s;obtain ⟨hl,hb,h⟩:=h
  have f2:=AutoSeq1.sub_tuple_tuple
  have z1:items.size=ns.length:=by rw[<- hi.length];simp
  have z2:items2.size=ms.length:=by rw[<- hj.length];simp
  wp_walk using wpAny_loadPart' hl,wpAny_loadPart' hb,DZ _ (λrest b s'=>b.1=none/\s'=⟨hp,g,d,tk,os⟩/\∃(vs ws:List z9) (ns' ms':List Int),rest=vs.zip ws ∧
   CA vs ns'/\CA ws ms'/\ns'.length+items2.size=ms'.length+items.size/\R (.ok (.ret (.bool (lexLt ns' ms')))) ⟨hp,g,d,tk,os⟩) _
  case turn =>
   rintro ⟨y,x⟩ rest b s' ⟨hb',rfl,vs,ws,ns',ms',hz,hvi,hwi,hlen,hR⟩
   cases hvi with
   | nil=>rw[List.zip_nil_left] at hz;cases hz
   | cons a t hvi' =>
    cases hwi with
    | nil=>rw[List.zip_nil_right] at hz;cases hz
    | cons c u hwi' =>
     rw[Em] at hz
     injection hz with hyx hrest
     injection hyx with hy hx
     subst hy hx
     rw[cU] at hR
     simp only[AR] at hlen
     obtain ⟨e,he,hiff⟩:=tP A.in1 ⟨hp,g,d,tk,os⟩ a t c u
     refine zY (he prog w _ _ ?_)
     cases e with
     | true =>
      rw[if_pos (hiff.mp rfl)] at hR
      wp_walk
      exact ⟨rfl,rfl,_,_,_,_,hrest,hvi',hwi',by lia,hR⟩
     | false =>
      rw[if_neg (λq=>absurd (hiff.mpr q) Ak)] at hR
      have hri:=nH A.in1 ⟨hp,g,d,tk,os⟩ a t c u prog w
      wp_walk using hri
      exact ⟨_,rfl,by simpa using hR⟩
  case fin =>
   rintro ⟨b1,b2⟩ s' ⟨hb',rfl,vs,ws,ns',ms',hz,hvi,hwi,hlen,hR⟩
   simp only at hb'
   subst hb'
   have hv:lexLt ns' ms'=decide (items.size<items2.size):=by
    cases hvi with
    | nil =>
     cases hwi with
     | nil =>
      simp only[Ck] at hlen
      rw[ko]
      exact (decide_eq_false (by lia)).symm
     | cons c u hw =>
      simp only[Ck,AR] at hlen
      rw[jB]
      exact (decide_eq_true (by lia)).symm
    | cons a t hv =>
     cases hwi with
     | nil =>
      simp only[Ck,AR] at hlen
      rw[jC]
      exact (decide_eq_false (by lia)).symm
     | cons c u hw =>
      rw[Em] at hz
      cases hz
   rw[hv] at hR
   wp_walk
   exact ⟨_,rfl,by simpa [Builtin.Tuple.tupleCompareSizes] using hR⟩
  case h =>
   exact ⟨rfl,rfl,items.toList,items2.toList,ns,ms,rfl,hi,hj,by lia,h⟩
end
section
variable  {prog:Au}{w:AV}{A:Bd}{E:z9->Ac->Prop}{s:Ac}
theorem oZ {l b:Addr}{items items2:Array z9}{ns ms:List Int}{Q:z9->Ac->Prop}(hl:IsTup s.heap l items)(hb:IsTup s.heap b items2)(hi:CA items.toList ns)(hj:CA items2.toList ms)
  (hu:A.units<cLine) (h:Q (.bool (lexLt ns ms)) s):AA (AM prog w) A (BQ .Lt (.ref l) (.ref b)) Q E s:=by
 obtain ⟨⟨cls,dd,data,sl⟩,ho,hc,n,hd⟩:=id hl
 obtain ⟨⟨cls2,dd2,data2,sl2⟩,ho2,hc2,n2,hd2⟩:=id hb
 simp only at hc hd hc2 hd2
 subst hc hd hc2 hd2
 exact FO (op :=.Lt) ⟨_,ho,rfl⟩ ⟨_,ho2,rfl⟩ PySem.F.slot_tuple_lt PySem.F.entry_tuple_lt (PySem.F.args_tuple_lt_2 _ _) (kq l b items items2 n n2 dd dd2 sl sl2 ns ms hi hj)
  ⟨ho,ho2,show Value.bool (lexLt ns ms)≠Value.notImplemented/\Q (.bool (lexLt ns ms)) s from ⟨(λx=>nomatch x),h⟩⟩ hu
theorem vI {t b:Addr}{vs ws:List z9}{Q:z9->Ac->Prop}(ht:IsTup s.heap t vs.toArray)(hb:IsTup s.heap b ws.toArray)(hv:vs≠[])
  (h1:ws=[]->Q (.ref t) s) (h2:ws≠[]->Q (.ref s.heap.objs.size) { s with heap:=s.heap.push { cls :=.type "tuple",data :=.seq (vs++ws).toArray } })
  (hsz:vs.length+ws.length<=Ao):AA (AM prog w) A (binaryOp .Add (.ref t) (.ref b)) Q E s:=by
 obtain ⟨⟨cls,dd,data,sl⟩,ho,hc,n,hd⟩:=id ht
 obtain ⟨⟨cls2,dd2,data2,sl2⟩,ho2,hc2,n2,hd2⟩:=id hb
 simp only at hc hd hc2 hd2
 subst hc hd hc2 hd2
 have e:vs.toArray++ws.toArray=(vs++ws).toArray:=by simp
 by_cases hw:ws=[]
 ·exact Hg ⟨_,ho,rfl⟩ ⟨_,ho2,rfl⟩ FF GO Ey En (Ee _ _)
   (tuple_addW1 t b vs.toArray ws.toArray n n2 dd dd2 sl sl2 (by simpa using hv) (by simp[hw])) ⟨ho,ho2,h1 hw⟩
 ·refine Hg ⟨_,ho,rfl⟩ ⟨_,ho2,rfl⟩ FF GO Ey En (Ee _ _)
   (tuple_addW2 t b vs.toArray ws.toArray n n2 dd dd2 sl sl2 (by simpa using hv) (by simpa using hw) (by rw[Ad,Ad];exact hsz)) ⟨ho,ho2,?_⟩
  rw[e]
  exact h2 hw
def sIx (n d:Nat):Option Int->Nat
 | none=>d
 | some v=>if v<0 then (v+(n:Int)).toNat else min v.toNat n
theorem tQ (n d:Nat):sIx n d none=d:=rfl
theorem vJ (n d k:Nat):sIx n d (some (k:Int))=min k n:=by
 show (if (k:Int)<0 then ((k:Int)+(n:Int)).toNat else min (k:Int).toNat n)=min k n
 rw[if_neg (by lia),Dt]
theorem x8 (n d:Nat)(hd:d<=n)(o:Option Int):sIx n d o<=n:=by
 cases o with
 | none=>exact hd
 | some v =>
  show (if v<0 then (v+(n:Int)).toNat else min v.toNat n)<=n
  by_cases hv:v<0
  ·rw[if_pos hv];lia
  ·rw[if_neg hv];exact Nat.min_le_right _ _
theorem qo (v:Int)(n d:Nat):(if v<0 then max (v+(n:Int)) 0 else min v (n:Int))=((sIx n d (some v):Nat):Int):=by
 show (if v<0 then max (v+(n:Int)) 0 else min v (n:Int))=(((if v<0 then (v+(n:Int)).toNat else min v.toNat n):Nat):Int)
 by_cases hv:v<0
 ·simp only[if_pos hv];lia
 ·simp only[if_neg hv];lia
theorem o3 (lo hi:Option Int)(n:Nat):Builtin.Slice.sliceAdjust lo hi 1 (n:Int)=(((sIx n 0 lo:Nat):Int),((sIx n n hi:Nat):Int)):=by
 have h1:¬ ((1:Int)<0):=by lia
 unfold Builtin.Slice.sliceAdjust
 simp only[h1,if_false]
 refine HR ?_ ?_
 ·cases lo with
  | none=>rfl
  | some v=>exact qo v n 0
 ·cases hi with
  | none=>rfl
  | some v=>exact qo v n n
theorem o4 (i j:Nat):Builtin.Slice.slicePlaces (i:Int) (j:Int) 1=j-i:=by
 unfold Builtin.Slice.slicePlaces
 have h1:(1:Int)>0:=by lia
 simp only[h1,if_true,Int.ediv_one]
 split <;> lia
theorem jD {v:z9}{o:Option Int}{Q:Option Int->Ac->Prop}(p:IsPart v o)(h:Q o s):AA (AM prog w) A (Builtin.Slice.slicePartIndex v) Q E s:=by
 cases p with
 | none=>exact slicePart_none h
 | int i t=>exact slicePart_int h
theorem dy {sl:Addr}{vl vu:z9}{lo hi:Option Int}{n:Nat}{Q:Int×Int×Nat->Ac->Prop}(hs:s.heap.IsSliceOf sl vl vu .none)(pl:IsPart vl lo)(pu:IsPart vu hi)
  (h:Q (((sIx n 0 lo:Nat):Int),1,sIx n n hi-sIx n 0 lo) s):AA (AM prog w) A (Builtin.Slice.sliceApplied (.ref sl) (pure (n:Int))) Q E s:=by
 obtain ⟨os,hos,hcs,hds⟩:=id hs
 unfold Builtin.Slice.sliceApplied Builtin.Slice.sliceFields
 refine zY (zY (DF hos hds (x:=vl) rfl (zY (DF hos hds (x:=vu) rfl (zY (DF hos hds (x :=.none) rfl (Aa ?_)))))))
 refine zY (slicePart_none ?_)
 show AA _ _ (if ((1:Int) == 0)=true then _ else _) _ _ s
 rw[if_neg (by decide)]
 refine zY (jD pl (zY (jD pu (zY (Aa ?_)))))
 show AA _ _ (match Builtin.Slice.sliceAdjust lo hi 1 (n:Int) with | (lo,hi)=>pure (lo,(1:Int),Builtin.Slice.slicePlaces lo hi 1)) _ _ s
 rw[o3 lo hi n]
 show AA _ _ (pure (((sIx n 0 lo:Nat):Int),(1:Int),Builtin.Slice.slicePlaces ((sIx n 0 lo:Nat):Int) ((sIx n n hi:Nat):Int) 1)) _ _ s
 rw[o4]
 exact Aa h
theorem tR (xs:Array z9)(i k:Nat):((Bv k).filterMap λ(m:Nat)=>xs[((i:Int)+(m:Int)*1).toNat]?).toArray=((xs.toList.drop i).take k).toArray:=by
 have e:(λ(m:Nat)=>xs[((i:Int)+(m:Int)*1).toNat]?)=λm=>xs[i+m]? := by
  funext m
  have:((i:Int)+(m:Int)*1).toNat=i+m:=by lia
  rw[this]
 rw[e]
 have:=pick_run xs i k
 rw[List.filterMap_map] at this
 have e2:((λx=>xs[x]?) ∘ λx=>i+x)=λm=>xs[i+m]? := rfl
 rw[e2] at this
 rw[this]
theorem gG {t sl:Addr}{items:Array z9}{vl vu:z9}{lo hi:Option Int}{Q:z9->Ac->Prop}(ht:IsTup s.heap t items)(hs:s.heap.IsSliceOf sl vl vu .none)(pl:IsPart vl lo)(pu:IsPart vu hi)
  (hw:¬ (sIx items.size 0 lo=0/\sIx items.size items.size hi=items.size))
  (h:Q (.ref s.heap.objs.size) { s with heap:=s.heap.push { cls :=.type "tuple",data :=.seq ((items.toList.drop (sIx items.size 0 lo)).take (sIx items.size items.size hi-sIx items.size 0 lo)).toArray } })
  (hsz:items.size<=Ao):AA (AM prog w) A (getItem (.ref t) (.ref sl)) Q E s:=by
 have htake:sizeOk (.seq ((items.toList.drop (sIx items.size 0 lo)).take (sIx items.size items.size hi-sIx items.size 0 lo)).toArray):=by
  show ((items.toList.drop (sIx items.size 0 lo)).take (sIx items.size items.size hi-sIx items.size 0 lo)).toArray.size<=Ao
  rw[Ad,Bf,Bk,Ai]
  omega
 have hj:sIx items.size items.size hi<=items.size:=x8 _ _ (Ag _) hi
 obtain ⟨os,hos,hcs,hds⟩:=id hs
 have hTs:s.TypeIs (.ref sl) "slice" :=⟨os,hos,hcs⟩
 unfold getItem
 try with_reducible refine Bw ?_
 first | refine zY (Aa ?_) | skip
 refine zY (Hb ht.typeIs (by decide) ?_)
 refine zY (CS (name:=Str.ofString "__getitem__") ht.typeIs Bj
  (Cc Bj ht.typeIs entry_tuple_getitem ?_ (GP _ _)))
 show AA _ _ (Builtin.Tuple.tupleItemsOf (.ref t) >>= _) _ _ s
 refine zY (tupleItemsOf_ ht ?_)
 refine zY (Dm hTs ?_)
 rw[if_pos (by decide)]
 refine zY (dy hs pl pu ?_)
 have hno:¬ ((((sIx items.size 0 lo:Nat):Int) == 0 && (1:Int) == 1 && (sIx items.size items.size hi-sIx items.size 0 lo) == items.size)=true):=by
  intro q
  rw[BD,BD] at q
  have q1:((sIx items.size 0 lo:Nat):Int)=0:=eq_of_beq q.1.1
  have q2:sIx items.size items.size hi-sIx items.size 0 lo=items.size:=eq_of_beq q.2
  exact hw ⟨by omega,by omega⟩
 show AA _ _ (if (((sIx items.size 0 lo:Nat):Int) == 0 && (1:Int) == 1 && (sIx items.size items.size hi-sIx items.size 0 lo) == items.size)=true then _ else _) _ _ s
 rw[if_neg hno,tR]
 first
  | exact zY (m:=Builtin.Tuple.tupleExact _) (A2 (Aa ⟨_,rfl,Aa h⟩) htake)
  | exact zY (m:=Builtin.Tuple.tupleExact _) (A2 (zY (Aa (Aa ⟨_,rfl,Aa h⟩))) htake)
  | exact zY (zY (m:=Builtin.Tuple.tupleExact _) (A2 (Aa (Aa ⟨_,rfl,Aa h⟩)) htake))
  | exact zY (zY (m:=Builtin.Tuple.tupleExact _) (A2 (Aa ⟨_,rfl,Aa h⟩) htake))
end
end HT
namespace L2
open PySem PySem.Spec PyProof.Rows
abbrev TO:=St->Hp->(Option Int->Hp->Prop)->Prop
def PO (X:Cx)(e:Option Expr)(t:TO):Prop :=
 ∀(pins:List (Addr×Obj)) (s:Ac) (σ:St) (H:Hp) (Q:Option Int->Hp->Prop),Inv X pins σ H s->t σ H Q →
  AA (AM X.prog X.w) X.A (evalPart e X.env) (λu s'=>∃o H',Inv X pins σ H' s'/\IsPart u o/\Q o H') X.xe s
def vK:TO:=λ_ H Q=>Q none H
def zp (t:TE):TO:=λσ H Q=>t σ H λx H1=>∃i,x = .int i/\Q (some i) H1
theorem intsAre_of {ns:List Int}:∀{us:List z9},Vals (ns.map V.int) us->CA us ns:=by
 induction ns with
 | nil=>intro us r;rw[FT] at r;cases r;exact .nil
 | cons n ns ih =>
  intro us r
  rw[AL] at r
  cases r with
  | cons r1 r2 =>
   obtain ⟨t,e⟩:=r1
   subst e
   exact .cons n t (ih r2)
section
variable  {X:Cx}{e:Expr}{te:TE}{lo hi:Option Expr}{tl th:TO}{pos p2:Pos}
theorem dO:PO X none vK:=by
 intro pins s σ H Q I h
 rw[evalPart_none]
 exact Aa ⟨none,H,I,.none,h⟩
theorem dP (h:PE X e te):PO X (some e) (zp te):=by
 intro pins s σ H Q I hw
 rw[evalPart_some]
 refine thn (h pins s σ H _ I hw) λu s1 ⟨x,H1,I1,r1,q1⟩ =>?_
 obtain ⟨i,rfl,q⟩:=q1
 obtain ⟨t,rfl⟩:=r1
 exact ⟨some i,H1,I1,.int i t,q⟩
def SlR (X:Cx)(r:V->Option Int->Option Int->Hp->VK->Prop):Prop :=
 ∀(pins:List (Addr×Obj)) (s:Ac) (σ:St) (H:Hp) (x:V) (v vl vu:z9) (lo hi:Option Int) (sl:Addr) (Q:VK),Inv X pins σ H s->RelV x v->s.heap.IsSliceOf sl vl vu .none->IsPart vl lo->IsPart vu hi->r x lo hi H Q →
  ∃T id,typeLookup (.type T) "__getitem__" = pure (some (.builtin id))/\s.TypeIs v T/\AA (AM X.prog X.w) X.A (getItem v (.ref sl)) (EP X pins σ Q) X.xe s
def tSl (r:V->Option Int->Option Int->Hp->VK->Prop)(te:TE)(tl th:TO):TE:=λσ H Q=>te σ H λx H1=>tl σ H1 λl H2=>th σ H2 λu H3=>r x l u H3 Q
theorem cV {r:V->Option Int->Option Int->Hp->VK->Prop}(hr:SlR X r)(he:PE X e te)(hl:PO X lo tl)(hu:PO X hi th):PE X (.Subscript e (.Slice lo hi none p2) pos) (tSl r te tl th):=by
 intro pins s σ H Q I h
 refine Subscript_ (thn (he pins s σ H _ I h) λv s1 ⟨x,H1,I1,r1,q1⟩ =>?_)
 refine wpAny_Slice (thn (hl pins s1 σ H1 _ I1 q1) λvl s2 ⟨l,H2,I2,pl,q2⟩=>thn (hu pins s2 σ H2 _ I2 q2) λvu s3 ⟨u,H3,I3,pu,q3⟩ =>?_)
 rw[evalPart_none]
 refine Aa ?_
 have I4:Inv X pins σ H3 { s3 with heap:=s3.heap.push { cls :=.type "slice",data :=.fields #[vl,vu,.none] } }:=I3.kept (t':=s3.toks) λb ob q=>zZ _ q
 obtain ⟨T,id,hT,ht,hg⟩:=hr pins { s3 with heap:=s3.heap.push { cls :=.type "slice",data :=.fields #[vl,vu,.none] } } σ H3 x v vl vu l u s3.heap.objs.size Q I4 r1 (Ij ..) pl pu q3
 show AA (AM X.prog X.w) X.A (subscriptTail e (.Slice lo hi none p2) v (.ref s3.heap.objs.size)) (EP X pins σ Q) X.xe { s3 with heap:=s3.heap.push { cls :=.type "slice",data :=.fields #[vl,vu,.none] } }
 exact tail_any (ops:=[.ref s3.heap.objs.size,v]) ht hT hg (by with_unfolding_all rfl)
def dz (xs:List V)(lo hi:Option Int):List V:=(xs.drop (HT.sIx xs.length 0 lo)).take (HT.sIx xs.length xs.length hi-HT.sIx xs.length 0 lo)
theorem iM (xs:List V)(lo hi:Option Int):(dz xs lo hi).length<=xs.length:=by
 unfold dz
 rw[Bf,Bk]
 lia
def rSlT (K:z8):V->Option Int->Option Int->Hp->VK->Prop:=λx lo hi H Q=>∃a xs,x = .ref a/\SqT K H a xs ∧
 ¬ (HT.sIx xs.length 0 lo=0/\HT.sIx xs.length xs.length hi=xs.length)/\∀p,H p=none->Q (.ref p) (upd H p (.tup (dz xs lo hi)))
theorem x9:SlR X (rSlT X.K):=by
 intro pins s σ H x v vl vu lo hi sl Q I rx hs pl pu h
 obtain ⟨a,xs,rfl,hx,hw,q⟩:=h
 cases rx
 obtain ⟨its,r,ht,hz⟩:=I.tuple hx
 have hlen:its.toArray.size=xs.length:=by rw[Ad];exact r.length.symm
 refine ⟨"tuple",_,Bj.lookup,ht.typeIs,?_⟩
 refine HT.gG ht hs pl pu (by rw[hlen];exact hw) ?_ (by rw[hlen];exact hz)
 rw[hlen]
 refine ⟨.ref s.heap.objs.size,_,I.laid (t':=s.toks) (o :=.tup (dz xs lo hi)) (λb ob q=>zZ _ q) (Ag _) ?_,rfl,q _ (I.hok.fresh (Ag _))⟩
 exact ⟨A4 (iM xs lo hi) hz,_,(r.drop (HT.sIx xs.length 0 lo)).take (HT.sIx xs.length xs.length hi-HT.sIx xs.length 0 lo),di.new _ _⟩
def zq (K:z8):R2:=λx y H Q=>∃a b xs ys,x = .ref a/\y = .ref b/\SqT K H a xs/\SqT K H b ys/\xs≠[]/\xs.length+ys.length<=Ao ∧
 (ys=[]->Q (.ref a) H)/\(ys≠[]->∀p,H p=none->Q (.ref p) (upd H p (.tup (xs++ys))))
theorem Vals.i3 {xs:List V}{us:List z9}(r:Vals xs us):us=[]↔xs=[]:=by
 cases r with
 | nil=>simp
 | cons _ _=>simp
theorem vL:OpR X (binaryOp .Add) (zq X.K):=by
 intro pins s σ H x y v u Q I rx ry h
 obtain ⟨a,b,xs,ys,rfl,rfl,ha,hb,hx,hz,q1,q2⟩:=h
 cases rx
 cases ry
 obtain ⟨its,r1,p1,_⟩:=I.tuple ha
 obtain ⟨its2,r2,p2,_⟩:=I.tuple hb
 refine HT.vI p1 p2 (λz=>hx (r1.i3.mp z)) (λz=>⟨.ref a,H,I,rfl,q1 (r2.i3.mp z)⟩) (λz =>?_) (by rw[<- r1.length, <- r2.length];exact hz)
 refine ⟨.ref s.heap.objs.size,_,I.laid (t':=s.toks) (o :=.tup (xs++ys)) (λb ob q=>zZ _ q) (Ag _) ?_,rfl,q2 (λw=>z (r2.i3.mpr w)) _ (I.hok.fresh (Ag _))⟩
 exact ⟨by rw[Ae];exact hz,_,r1.append r2,di.new _ _⟩
end
open PySem PySem.Spec PyProof.Rows
def ixN (n:Nat)(i:Int):Option Nat:=if 0<=i then (if i<n then some i.toNat else none) else if -(n:Int)<=i then some (i+n).toNat else none
def atI {α:Type}(xs:List α)(i:Int):Option α:=(ixN xs.length i).bind λj=>xs[j]?
theorem qp {n:Nat}{i:Int}{j:Nat}(h:ixN n i=some j):seqIndex? i n=some j/\j<n /\ -(n:Int)<=i/\i<n:=by
 unfold ixN at h
 by_cases h0:0<=i
 ·rw[if_pos h0] at h
  by_cases h1:i<n
  ·rw[if_pos h1] at h
   have e:i.toNat=j:=AI h
   exact ⟨by rw[Gs h0 h1,e],by lia,by lia,h1⟩
  ·rw[if_neg h1] at h;cases h
 ·rw[if_neg h0] at h
  by_cases h1 : -(n:Int)<=i
  ·rw[if_pos h1] at h
   have e:(i+n).toNat=j:=AI h
   exact ⟨by rw[Hh (by lia) h1,e],by lia,h1,by lia⟩
  ·rw[if_neg h1] at h;cases h
theorem qq {α:Type}{xs:List α}{i:Int}{v:α}(h:atI xs i=some v):∃j,seqIndex? i xs.length=some j/\xs[j]? = some v/\j<xs.length /\ -(xs.length:Int)<=i/\i<xs.length:=by
 unfold atI at h
 cases e:ixN xs.length i with
 | none=>rw[e] at h;cases h
 | some j =>
  rw[e] at h
  obtain ⟨h1,h2,h3,h4⟩:=qp e
  exact ⟨j,h1,h,h2,h3,h4⟩
theorem cN {α:Type}{xs:List α}{j:Nat}{v:α}(h:xs[j]? = some v):atI xs (j:Int)=some v:=by
 have hj:j<xs.length:=(Af.mp h).1
 have e:ixN xs.length (j:Int)=some j:=by
  unfold ixN
  rw[if_pos (by lia),if_pos (by lia)];simp
 unfold atI;rw[e];exact h
def vM (b:Expr):Prop:=∀o i,subscripted b false o i=operate [o,i] (getItem o i)
def IxR (X:Cx)(r:R2):Prop :=
 ∀(value slice:Expr) (pins:List (Addr×Obj)) (s:Ac) (σ:St) (H:Hp) (x y:V) (v u:z9) (Q:VK),Inv X pins σ H s->RelV x v->RelV y u->r x y H Q →
  subscripted slice false v u=operate [v,u] (getItem v u)->AA (AM X.prog X.w) X.A (subscriptTail value slice v u) (EP X pins σ Q) X.xe s
def MtR (X:Cx)(id:String)(r:V->List V->Hp->VK->Prop):Prop :=
 ∀(pins:List (Addr×Obj)) (s:Ac) (σ:St) (H:Hp) (x:V) (xs:List V) (v:z9) (us:List z9) (Q:VK),Inv X pins σ H s->RelV x v->Vals xs us->r x xs H Q →
  AA (AM X.prog X.w) X.A (call (.builtin id) (v :: us)) (EP X pins σ Q) X.xe s
section
variable  {X:Cx}{a b:Expr}{ta tb:TE}{pos:Pos}
theorem aq {r:R2}(hr:IxR X r)(ha:PE X a ta)(hb:PE X b tb)(hs:vM b):PE X (.Subscript a b pos) (tOp r ta tb):=by
 intro pins s σ H Q I h
 exact Subscript_ (xV ha hb I h λv u s2 x y H2 I2 rx ry q=>hr a b pins s2 σ H2 x y v u Q I2 rx ry q (hs _ _))
def zr (K:z8):R2:=λx y H Q=>∃p xs i v,x = .ref p/\y = .int i/\SqL K H p xs/\atI xs i=some v/\Q v H
def zu (K:z8):R2:=λx y H Q=>∃p xs i v,x = .ref p/\y = .int i/\SqT K H p xs/\atI xs i=some v/\Q v H
theorem bq:IxR X (zr X.K):=by
 intro value slice pins s σ H x y v u Q I rx ry h hs
 obtain ⟨p,xs,i,z,rfl,rfl,hq,he,q⟩:=h
 cases rx
 obtain ⟨t,rfl⟩:=ry
 obtain ⟨its,r,pl,hz⟩:=I.list hq
 obtain ⟨j,h1,h2,h3,h4,h5⟩:=qq he
 obtain ⟨w,ew,rw'⟩:=r.get h2
 have hl:=r.length
 have hn:=ia
 have fin:EP X pins σ Q w s:=⟨z,H,I,rw',q⟩
 by_cases h0:0<=i
 ·have hj:i.toNat=j:=by
   rw[Gs h0 h5] at h1
   exact AI h1
  exact item_listR pl.isList h0 (by lia) (by rw[hj];simpa using ew) fin hs
 ·have hj:(i+(its.toArray.size:Int)).toNat=j:=by
   rw[Hh (by lia) h4] at h1
   rw[Ad, <- hl]
   exact AI h1
  exact FP (x:=w) pl.isList.typeIs slot_list_getitem.lookup
   (wpAny_getItem_list_neg (Q:=λr s'=>r=w/\EP X pins σ Q r s') pl.isList (by lia) (by rw[Ad] <;> lia) (by lia) (by rw[hj];simpa using ew) ⟨rfl,fin⟩) hs
theorem au:IxR X (zu X.K):=by
 intro value slice pins s σ H x y v u Q I rx ry h hs
 obtain ⟨p,xs,i,z,rfl,rfl,hq,he,q⟩:=h
 cases rx
 obtain ⟨t,rfl⟩:=ry
 obtain ⟨its,r,pl,hz⟩:=I.tuple hq
 obtain ⟨j,h1,h2,h3,h4,h5⟩:=qq he
 obtain ⟨w,ew,rw'⟩:=r.get h2
 have hl:=r.length
 have hn:=ia
 have fin:EP X pins σ Q w s:=⟨z,H,I,rw',q⟩
 exact FP (x:=w) pl.typeIs slot_tuple_getitem.lookup
  (getItem_tuple (j:=j) (Q:=λr s'=>r=w/\EP X pins σ Q r s') pl (by lia) (by lia) (by rw[Ad, <- hl];exact h1) (by simpa using ew) ⟨rfl,fin⟩) hs
theorem o6 (its:List z9)(n j:Nat)(u:z9):Cr (·.setIfInBounds j u) { cls :=.type "list",data :=.seq its.toArray n }={ cls :=.type "list",data :=.seq (its.set j u).toArray n }:=by
 simp[Cr]
theorem Inv.lst {pins:List (Addr×Obj)}{σ:St}{H:Hp}{s:Ac}{p:Addr}{xs:List V}(I:Inv X pins σ H s)(h:H p=some (.lst xs)) :
  ∃(its:List z9) (n:Nat),Vals xs its/\s.heap.get? p=some { cls :=.type "list",data :=.seq its.toArray n }/\xs.length<=Ao:=by
 obtain ⟨z,its,n,r,e⟩:=I.hok p _ h
 exact ⟨its,n,r,e,z⟩
theorem Inv.yb {pins:List (Addr×Obj)}{σ:St}{H:Hp}{s:Ac}{p:Addr}{xs ys:List V}{its its':List z9}{n n':Nat}{f:Obj->Obj}(I:Inv X pins σ H s)(h:H p=some (.lst xs))
  (ho:s.heap.get? p=some { cls :=.type "list",data :=.seq its.toArray n }) (hf:f { cls :=.type "list",data :=.seq its.toArray n }={ cls :=.type "list",data :=.seq its'.toArray n' }) (r:Vals ys its') (hz:ys.length<=Ao) (t:Nat) :
  Inv X pins σ (upd H p (.lst ys)) { s with heap:=s.heap.update p f,toks:=t }:=by
 have e:(s.heap.update p f).get? p=some { cls :=.type "list",data :=.seq its'.toArray n' }:=by
  rw[Bg f ho (by rw[hf] <;> rfl),hf]
 refine I.write (x:=p) (e:=p) (by rw[h];trivial) (.inl rfl) (λb u hb q=>(AF _ _ (B4 hb)).trans q) ⟨_,e⟩ ?_
 exact ⟨hz,its',n',r,e⟩
def zv:V->V->V->Hp->(Hp->Prop)->Prop:=λo i v H Q=>∃p xs k j,o = .ref p/\i = .int k/\H p=some (.lst xs)/\ixN xs.length k=some j/\Q (upd H p (.lst (xs.set j v)))
theorem set_list:xS X zv:=by
 intro pins s σ H o i v ov iv u Q I ro ri rv h
 obtain ⟨p,xs,k,j,rfl,rfl,hp,hj,q⟩:=h
 cases ro
 obtain ⟨t,rfl⟩:=ri
 obtain ⟨its,n,r,ho,hz⟩:=I.lst hp
 obtain ⟨h1,h2,h3,h4⟩:=qp hj
 have hl:=r.length
 have hn:=ia
 have I':Inv X pins σ (upd H p (.lst (xs.set j v))) { s with heap:=s.heap.update p (Cr (·.setIfInBounds j u)) } :=
  I.yb hp ho (o6 its n j u) (r.set rv j) (by rw[C6];exact hz) s.toks
 by_cases h0:0<=k
 ·have hk:k.toNat=j:=by
   rw[Gs h0 h4] at h1
   exact AI h1
  exact PySem.W.ki_setAt ho h0 (by lia) (by rw[Ad, <- hl];exact h4) (by rw[hk];exact ⟨_,I',q⟩)
 ·have hk:(k+(its.toArray.size:Int)).toNat=j:=by
   rw[Hh (by lia) h3] at h1
   rw[Ad, <- hl]
   exact AI h1
  exact PySem.W.ki_setBack ho (by lia) (by rw[Ad, <- hl];exact h3) (by lia) (by rw[hk];exact ⟨_,I',q⟩)
theorem mj (lo hi:Option Int)(n:Nat):(sliceBounds lo hi none n).1=((HT.sIx n 0 lo:Nat):Int)/\(sliceBounds lo hi none n).2.1=((HT.sIx n n hi:Nat):Int)/\(sliceBounds lo hi none n).2.2=1:=by
 refine ⟨?_,?_,rfl⟩
 ·cases lo with
  | none=>simp[sliceBounds,HT.sIx]
  | some i =>
   simp only[sliceBounds,HT.sIx,Hj,show (1:Int)>0 by decide,if_true]
   by_cases h:i<0
   ·simp only[h,if_true] <;> lia
   ·simp only[h,if_false] <;> lia
 ·cases hi with
  | none=>simp[sliceBounds,HT.sIx]
  | some i =>
   simp only[sliceBounds,HT.sIx,Hj,show (1:Int)>0 by decide,if_true]
   by_cases h:i<0
   ·simp only[h,if_true] <;> lia
   ·simp only[h,if_false] <;> lia
theorem kr (its:List z9)(lo hi:Option Int):slicePick its.toArray lo hi none=((its.drop (HT.sIx its.length 0 lo)).take (HT.sIx its.length its.length hi-HT.sIx its.length 0 lo)).toArray:=by
 obtain ⟨h1,h2,h3⟩:=mj lo hi its.toArray.size
 unfold slicePick
 rw[h1,h2,h3]
 simp only[sliceRange_one,pick_run,Ad] <;> rfl
def rSlL (K:z8):V->Option Int->Option Int->Hp->VK->Prop:=λx lo hi H Q=>∃a xs,x = .ref a/\SqL K H a xs/\∀p,H p=none->Q (.ref p) (upd H p (.lst (dz xs lo hi)))
theorem ml:SlR X (rSlL X.K):=by
 intro pins s σ H x v vl vu lo hi sl Q I rx hs pl pu h
 obtain ⟨a,xs,rfl,hx,q⟩:=h
 cases rx
 obtain ⟨its,r,ht,hz⟩:=I.list hx
 have hlen:=r.length
 refine ⟨"list",_,slot_list_getitem.lookup,ht.isList.typeIs,?_⟩
 refine wpAny_getItem_list_slice ht.isList hs pl pu .none (by simp) ?_ (by rw[Ad] <;> lia)
 rw[kr, <- hlen]
 refine ⟨.ref s.heap.objs.size,_,I.laid (t':=s.toks) (o :=.lst (dz xs lo hi)) (λb ob q=>zZ _ q) (Ag _) ?_,rfl,q _ (I.hok.fresh (Ag _))⟩
 exact ⟨A4 (iM xs lo hi) hz,_,0,(r.drop (HT.sIx xs.length 0 lo)).take (HT.sIx xs.length xs.length hi-HT.sIx xs.length 0 lo),Am _ rfl⟩
def gH:V->Bool
 | .non=>true
 | .bl _=>true
 | .int _=>true
 | .str _=>true
 | _=>false
def eqV:V->V->Bool
 | .non,.non=>true
 | .bl a,.bl b=>a == b
 | .bl a,.int b=>(if a then 1 else 0) == b
 | .int a,.bl b=>a == (if b then 1 else 0)
 | .int a,.int b=>a == b
 | .str a,.str b=>a == b
 | _,_=>false
theorem yc {A:Bd}{s:Ac}{y x:V}{u v:z9}(ry:RelV y u)(rx:RelV x v)(fy:gH y=true)(fx:gH x=true):C0 A s u v (eqV y x):=by
 cases y with
 | non =>
  cases ry
  cases x with
  | non=>cases rx;exact DL _
  | bl b=>cases rx;exact SeqAt.EqAt.none_bool b
  | int b=>obtain ⟨t,rfl⟩:=rx;exact SeqAt.EqAt.none_int b t
  | str b=>obtain ⟨t,rfl⟩:=rx;exact SeqAt.EqAt.none_str b t
  | _=>exact absurd (show false=true from fx) Ak
 | bl a =>
  cases ry
  cases x with
  | non=>cases rx;exact SeqAt.EqAt.bool_none a
  | bl b=>cases rx;exact SeqAt.EqAt.bool_bool a b
  | int b=>obtain ⟨t,rfl⟩:=rx;exact SeqAt.EqAt.bool_int a b t
  | str b=>obtain ⟨t,rfl⟩:=rx;exact SeqAt.EqAt.bool_str a b t
  | _=>exact absurd (show false=true from fx) Ak
 | int a =>
  obtain ⟨t',rfl⟩:=ry
  cases x with
  | non=>cases rx;exact SeqAt.EqAt.int_none a t'
  | bl b=>cases rx;exact SeqAt.EqAt.int_bool a t' b
  | int b=>obtain ⟨t,rfl⟩:=rx;exact Dj a t' b t
  | str b=>obtain ⟨t,rfl⟩:=rx;exact Gx a t' b t
  | _=>exact absurd (show false=true from fx) Ak
 | str a =>
  obtain ⟨t',rfl⟩:=ry
  cases x with
  | non=>cases rx;exact SeqAt.EqAt.str_none a t'
  | bl b=>cases rx;exact SeqAt.EqAt.str_bool a t' b
  | int b=>obtain ⟨t,rfl⟩:=rx;exact Gy a t' b t
  | str b=>obtain ⟨t,rfl⟩:=rx;exact GB a t' b t
  | _=>exact absurd (show false=true from fx) Ak
 | _=>exact absurd (show false=true from fy) Ak
def eqU (x:V)(u:z9):Bool:=match u with
 | .none=>eqV .non x
 | .bool b=>eqV (.bl b) x
 | .int i _=>eqV (.int i) x
 | .str z _=>eqV (.str z) x
 | _=>false
theorem tS {x y:V}{u:z9}(r:RelV y u)(f:gH y=true):eqU x u=eqV y x:=by
 cases y with
 | non=>cases r;rfl
 | bl b=>cases r;rfl
 | int i=>obtain ⟨t,rfl⟩:=r;rfl
 | str z=>obtain ⟨t,rfl⟩:=r;rfl
 | _=>exact absurd (show false=true from f) Ak
theorem gI {x:V}:∀{xs:List V} {us:List z9},Vals xs us->xs.all gH=true->us.any (eqU x)=xs.any λy=>eqV y x
 | _,_,.nil,_=>rfl
 | y :: xs,u :: us,.cons r t,f=>by
  rw[HS,BD] at f
  rw[DQ,DQ,tS r f.1,gI t f.2]
theorem eM {A:Bd}{s:Ac}{x:V}{v:z9}(rx:RelV x v)(fx:gH x=true):∀{xs:List V} {us:List z9},Vals xs us->xs.all gH=true->∀u∈us,C0 A s u v (eqU x u)
 | _,_,.nil,_=>λu hu=>by cases hu
 | y :: xs,u :: us,.cons r t,f=>λu' hu=>by
  rw[HS,BD] at f
  rcases AJ.mp hu with rfl | hu
  ·rw[tS r f.1];exact yc r rx f.1 fx
  ·exact eM rx fx t f.2 u' hu
def inV (x:V)(xs:List V):Bool:=xs.any λy=>eqV y x
def rIn (K:z8)(neg:Bool):R2:=λx y H Q=>∃p xs,y = .ref p/\(SqL K H p xs\/SqT K H p xs)/\gH x=true/\xs.all gH=true/\Q (.bl (if neg then !inV x xs else inV x xs)) H
theorem fA:OpR X (BQ .In) (rIn X.K false):=by
 intro pins s σ H x y v u Q I rx ry h
 obtain ⟨p,xs,rfl,hq,fx,fs,q⟩:=h
 cases ry
 rcases hq with hq | hq
 ·obtain ⟨its,r,pl,hz⟩:=I.list hq
  refine SeqAt.in_listAt (eqU x) pl.isList (λw hw=>eM rx fx r fs w (by simpa using hw)) ⟨.bl _,H,I,rfl,?_⟩
  rw[show its.toArray.any (eqU x)=its.any (eqU x) by simp,gI r fs]
  exact q
 ·obtain ⟨its,r,pl,hz⟩:=I.tuple hq
  refine SeqAt.in_tupleAt (eqU x) pl (λw hw=>eM rx fx r fs w (by simpa using hw)) ⟨.bl _,H,I,rfl,?_⟩
  rw[show its.toArray.any (eqU x)=its.any (eqU x) by simp,gI r fs]
  exact q
theorem mq:OpR X (BQ .NotIn) (rIn X.K true):=by
 intro pins s σ H x y v u Q I rx ry h
 obtain ⟨p,xs,rfl,hq,fx,fs,q⟩:=h
 cases ry
 rcases hq with hq | hq
 ·obtain ⟨its,r,pl,hz⟩:=I.list hq
  refine SeqAt.notIn_listAt (eqU x) pl.isList (λw hw=>eM rx fx r fs w (by simpa using hw)) ⟨.bl _,H,I,rfl,?_⟩
  rw[show its.toArray.any (eqU x)=its.any (eqU x) by simp,gI r fs]
  exact q
 ·obtain ⟨its,r,pl,hz⟩:=I.tuple hq
  refine SeqAt.notIn_tupleAt (eqU x) pl (λw hw=>eM rx fx r fs w (by simpa using hw)) ⟨.bl _,H,I,rfl,?_⟩
  rw[show its.toArray.any (eqU x)=its.any (eqU x) by simp,gI r fs]
  exact q
theorem aO:bM X (.builtin "len") (λxs H Q=>∃p ys,xs=[.ref p]/\(SqL X.K H p ys\/SqT X.K H p ys)/\Q (.int ys.length) H):=by
 intro pins s σ H xs us Q I r h
 obtain ⟨p,ys,rfl,hq,q⟩:=h
 obtain ⟨u,rfl,rx⟩:=vals1 r
 cases rx
 have hn:=ia
 rcases hq with hq | hq
 ·obtain ⟨its,r',pl,hz⟩:=I.list hq
  have hlen:=r'.length
  exact Calls.call_len_list pl.isList (by simp only[Ad] <;> lia) ⟨.int ys.length,H,I.tok _,⟨s.toks+1,by rw[Ad,hlen]⟩,q⟩
 ·obtain ⟨its,r',pl,hz⟩:=I.tuple hq
  have hlen:=r'.length
  exact HA pl (by simp only[Ad] <;> lia) ⟨.int ys.length,H,I.tok _,⟨s.toks+1,by rw[Ad,hlen]⟩,q⟩
theorem mv:bM X (.type "list") (λxs H Q=>∃p ys,xs=[.ref p]/\(SqL X.K H p ys\/SqT X.K H p ys)/\∀l,H l=none->Q (.ref l) (upd H l (.lst ys))):=by
 intro pins s σ H xs us Q I r h
 obtain ⟨p,ys,rfl,hq,q⟩:=h
 obtain ⟨u,rfl,rx⟩:=vals1 r
 cases rx
 have fin:∀(its:List z9),Vals ys its->ys.length<=Ao->∀(h':Heap) (c':Nat),(∀b o',s.heap.get? b=some o'->h'.get? b=some o') →
   h'.get? s.heap.objs.size=some { cls :=.type "list",dict:=none,data :=.seq its.toArray c',slots := #[] }->EP X pins σ Q (.ref s.heap.objs.size) { s with heap:=h' }:=λits r' hz h' c' kp e =>
  ⟨.ref s.heap.objs.size,_,I.laid (t':=s.toks) kp (Ag _) (show a6 X.prog X.w _ h' _ (.lst ys) from ⟨hz,its,c',r',e⟩),rfl,q _ (I.hok.fresh (Ag _))⟩
 rcases hq with hq | hq
 ·obtain ⟨its,r',pl,hz⟩:=I.list hq
  have hlen:=r'.length
  obtain ⟨o,ho,hc,n,hd⟩:=pl.isList
  exact call_list_seq p (.inl rfl) ho hc hd (λh' c' kp e=>fin its r' hz h' c' kp e) (by simp only[Ad] <;> lia)
 ·obtain ⟨its,r',pl,hz⟩:=I.tuple hq
  have hlen:=r'.length
  obtain ⟨o,ho,hc,n,hd⟩:=pl
  exact call_list_seq p (.inr rfl) ho hc hd (λh' c' kp e=>fin its r' hz h' c' kp e) (by simp only[Ad] <;> lia)
theorem aY:bM X (.type "tuple") (λxs H Q=>∃p ys,xs=[.ref p]/\((SqL X.K H p ys/\∀l,H l=none->Q (.ref l) (upd H l (.tup ys)))\/(SqT X.K H p ys/\Q (.ref p) H))):=by
 intro pins s σ H xs us Q I r h
 obtain ⟨p,ys,rfl,h⟩:=h
 obtain ⟨u,rfl,rx⟩:=vals1 r
 cases rx
 rcases h with ⟨hq,q⟩ | ⟨hq,q⟩
 ·obtain ⟨its,r',pl,hz⟩:=I.list hq
  have hlen:=r'.length
  refine call_tuple_list pl.isList (λh' kp =>?_) (by simp only[Ad] <;> lia)
  have I1:Inv X pins σ H { s with heap:=h' }:=I.kept (t':=s.toks) kp
  have I2:Inv X pins σ (upd H h'.objs.size (.tup ys)) { s with heap:=h'.push { cls :=.type "tuple",data :=.seq its.toArray } } :=
   I1.laid (t':=s.toks) (λb o e=>zZ _ e) (Ag _) (show a6 X.prog X.w _ _ _ (.tup ys) from ⟨hz,its,r',di.new _ _⟩)
  exact ⟨.ref h'.objs.size,_,I2,rfl,q _ (I1.hok.fresh (Ag _))⟩
 ·obtain ⟨its,r',pl,hz⟩:=I.tuple hq
  exact call_tuple_same pl ⟨.ref p,H,I,rfl,q⟩
def tyV (K:z8)(T:String)(x:V)(H:Hp):Prop:=match x with
 | .str _=>T = "str"
 | .int _=>T = "int"
 | .ref p=>(T = "list" /\ ∃xs,SqL K H p xs)\/(T = "tuple" /\ ∃o,K.lookup p=some o/\o.cls = .type "tuple" /\ o.dict=none) ∨
   (T = "dict" /\ ((∃kvs,H p=some (.dK kvs))\/∃kvs,H p=some (.dT kvs)))\/(T = "set" /\ ∃S n,H p=some (.set S n))
 | _=>False
theorem yd {pins:List (Addr×Obj)}{σ:St}{H:Hp}{s:Ac}{T:String}{x:V}{v:z9}(I:Inv X pins σ H s)(r:RelV x v)(ty:tyV X.K T x H) :
  s.TypeIs v T/\∀a,v = .ref a->∃ob,s.heap.get? a=some ob/\ob.dict=none:=by
 cases x with
 | str z =>
  obtain ⟨t,rfl⟩:=r
  cases (show T = "str" from ty)
  exact ⟨typeIs_str s z t,λ_ e=>nomatch e⟩
 | int i =>
  obtain ⟨t,rfl⟩:=r
  cases (show T = "int" from ty)
  exact ⟨Ga s i t,λ_ e=>nomatch e⟩
 | ref p =>
  cases r
  rcases ty with ⟨rfl,xs,hq⟩ | ⟨rfl,o,hk,hc,hd⟩ | ⟨rfl,hk⟩ | ⟨rfl,S,n,hk⟩
  ·obtain ⟨its,_,pl,_⟩:=I.list hq
   refine ⟨pl.isList.typeIs,λa e =>?_⟩
   cases e
   obtain ⟨o,n,e,c,hd,_⟩:=pl
   exact ⟨o,e,hd⟩
  ·refine ⟨⟨o,I.kIn p o hk,hc⟩,λa e =>?_⟩
   cases e
   exact ⟨o,I.kIn _ o hk,hd⟩
  ·have z:∃o,s.heap.get? p=some o/\o.ExactDict:=by
    rcases hk with ⟨kvs,hk⟩ | ⟨kvs,hk⟩
    ·obtain ⟨_,_,_,_,o,_,_,e,ex,_⟩:=I.hok p _ hk
     exact ⟨o,e,ex⟩
    ·obtain ⟨_,_,_,_,o,_,_,e,ex,_⟩:=I.hok p _ hk
     exact ⟨o,e,ex⟩
   obtain ⟨o,e,ex⟩:=z
   refine ⟨⟨o,e,ex.1⟩,λa e2 =>?_⟩
   cases e2
   exact ⟨o,e,ex.2.1⟩
  ·obtain ⟨o,_,_,_,e,ex,_⟩:=I.hok p _ hk
   refine ⟨⟨o,e,ex.1⟩,λa e2 =>?_⟩
   cases e2
   exact ⟨o,e,ex.2.1⟩
 | _=>exact False.elim ty
def tBM (K:z8)(T:String)(r:V->List V->Hp->VK->Prop)(to:TE)(t:TA):TE:=λσ H Q=>to σ H λx H1=>tyV K T x H1/\t σ H1 λxs H2=>r x xs H2 Q
variable  {o e:Expr}{es:List Expr}{to:TE}{t:TA}{name:Str}{apos cpos:Pos}{T id:String}{r:V->List V->Hp->VK->Prop}
theorem eD (pa:PlainAttrs T)(slot:Slot T name id)(hty:typeOf (.builtin id)=pure (.type "method_descriptor"))(hm:MtR X id r)(ho:PE X o to)(ha:PA X (e :: es) t)
  (hbase:attributeBase o name X.env (eval o X.env)=eval o X.env:=by rfl)
  (hfew:((Ez cpos (Bt (e :: es) X.env)).all (λx => !x.1) && (backToKw cpos (keywordEach [] X.env)).all (λx=>x.1.isSome)
   && decide ((e :: es).length+([]:List Keyword).length+(if ([]:List Keyword).isEmpty then 0 else 1)<30))=true:=by rfl)
  (hline:(apos.endLine == cpos.line)=true:=by rfl) (hs:Bt (e :: es) X.env=(false,eval e X.env) :: Bt es X.env:=by rfl) (hplain:(Ez cpos (Bt es X.env)).any (·.1)=false:=by rfl) :
  PE X (.Call (.Attribute o name apos) (e :: es) [] cpos) (tBM X.K T r to t):=by
 intro pins s σ H Q I h
 refine FQ hbase hfew hline rfl (thn (ho pins s σ H _ I h) λv s1 ⟨x,H1,I1,r1,ty,q1⟩ =>?_)
 obtain ⟨h1,h2⟩:=yd I1 r1 ty
 refine ⟨T,id,pa,slot,hty,h1,h2,?_⟩
 have hA:=ha cpos pins s1 σ H1 _ I1 q1
 rw[hs] at hA ⊢
 refine FJ (by show (false || (Ez cpos (Bt es X.env)).any (·.1))=false;rw[hplain] <;> rfl) (Gb ?_)
 exact thn hA λus s2 ⟨vs,H2,I2,r2,q2⟩=>hm pins s2 σ H2 x vs v us Q I2 r1 r2 q2
end
open PySem PySem.Spec PyProof.Rows
def MtM (X:Cx)(id:String)(r:V->List V->Hp->VK->Prop):Prop :=
 ∀(pins:List (Addr×Obj)) (s:Ac) (σ:St) (H:Hp) (x:V) (xs:List V) (v:z9) (us:List z9) (Q:VK),Inv X pins σ H s->RelV x v->Vals xs us->r x xs H Q →
  AA (AM X.prog X.w) X.A (call (.builtin id) (v :: us)) (EP X pins σ Q) X.xe s
theorem Vals.one:∀{x:V} {us:List z9},Vals [x] us->∃u,us=[u]/\RelV x u
 | _,_,.cons r .nil=>⟨_,rfl,r⟩
theorem Vals.rep {xs:List V}{us:List z9}(h:Vals xs us):∀k:Nat,Vals (AX k xs).flatten (AX k us).flatten
 | 0 =>.nil
 | k+1=>by
  rw[BS,BS,Ce,Ce]
  exact Vals.append h (Vals.rep h k)
theorem foldl_rep (its:List z9):∀(k:Nat) (acc:List z9),
  List.foldl (λx1 x2=>x1++x2) acc.toArray (AX k its.toArray)=(acc++(AX k its).flatten).toArray
 | 0,acc=>by simp
 | k+1,acc=>by
  have e:acc.toArray++its.toArray=(acc++its).toArray:=by simp
  have e2:(acc++its)++(AX k its).flatten=acc++(AX (k+1) its).flatten:=by
   rw[BS,Ce,A1]
  rw[<- e2, <- foldl_rep its k (acc++its), <- e,BS,FU]
section
variable  {X:Cx}{pins:List (Addr×Obj)}{σ:St}{H:Hp}{s:Ac}{l b:Addr}{xs ys zs:List V}
theorem Inv.zw {its its':List z9}{n:Nat}{f:Array z9->Array z9}{t':Nat}(I:Inv X pins σ H s)(hH:H l=some (.lst xs))
  (e:s.heap.get? l=some { cls :=.type "list",data :=.seq its.toArray n }) (hf:f its.toArray=its'.toArray) (hv:Vals ys its') (hz:ys.length<=Ao) :
  Inv X pins σ (upd H l (.lst ys)) { s with heap:=s.heap.update l (Cr f),toks:=t' }:=by
 have q:=PySem.IsL.update e f
 rw[hf] at q
 refine I.write (x:=l) (e:=l) (by rw[hH];exact trivial) (.inl rfl) (λb' u hb hu=>(AF s.heap (Cr f) (B4 hb)).trans hu) ⟨_,q⟩ ?_
 exact ⟨hz,its',_,hv,q⟩
theorem Inv.lnew {its:List z9}{t':Nat}(I:Inv X pins σ H s)(hv:Vals ys its)(hz:ys.length<=Ao) :
  Inv X pins σ (upd H s.heap.objs.size (.lst ys)) { s with heap:=s.heap.push { cls :=.type "list",data :=.seq its.toArray },toks:=t' } :=
 I.laid (λ_ _ q=>zZ _ q) (Ag _) ⟨hz,its,0,hv,Am _ rfl⟩
theorem Inv.fresh (I:Inv X pins σ H s):H s.heap.objs.size=none:=I.hok.fresh (Ag _)
theorem Inv.vN (I:Inv X pins σ H s)(hH:H l=some (.lst xs)):xs.length<=Ao/\∃(its:List z9) (n:Nat),Vals xs its/\xs.length=its.length/\s.heap.get? l=some { cls :=.type "list",data :=.seq its.toArray n }:=by
 obtain ⟨z,its,n,r,e⟩:=I.hok l _ hH
 exact ⟨z,its,n,r,r.length,e⟩
theorem jE {n:Nat}(h:n<=Ao):Builtin.List.listTooLong n=false:=by
 unfold Builtin.List.listTooLong
 exact decide_eq_false (by lia)
end
section
variable  {X:Cx}
def vO:V->List V->Hp->VK->Prop:=λx vs H Q=>∃l xs y,x = .ref l/\vs=[y]/\H l=some (.lst xs)/\xs.length<Ao/\Q .non (upd H l (.lst (xs++[y])))
theorem bL:MtM X "list.append" vO:=by
 intro pins s σ H x vs v us Q I rx rv h
 obtain ⟨l,xs,y,rfl,rfl,hH,hz,q⟩:=h
 cases rx
 obtain ⟨u,rfl,ru⟩:=rv.one
 obtain ⟨z,its,n,r,hl,e⟩:=I.vN hH
 refine EV F.slot_list_append ⟨_,e,rfl⟩ F.entry_list_append (F.args_list_append_2 _ _) (PySem.list_append l its.toArray n u (by rw[Ad];lia)) ⟨e,?_⟩
 refine ⟨.non,_,I.zw (its':=its++[u]) hH e (by simp) (r.append (.cons ru .nil)) ?_,rfl,q⟩
 rw[Ae,BH]
 lia
def vP:V->List V->Hp->VK->Prop:=λx vs H Q=>∃l b xs zs,x = .ref l/\vs=[.ref b]/\H l=some (.lst xs)/\H b=some (.lst zs)/\xs.length+zs.length<=Ao/\Q .non (upd H l (.lst (xs++zs)))
theorem rJ:MtM X "list.extend" vP:=by
 intro pins s σ H x vs v us Q I rx rv h
 obtain ⟨l,b,xs,zs,rfl,rfl,hH,hB,hz,q⟩:=h
 cases rx
 obtain ⟨u,rfl,ru⟩:=rv.one
 cases ru
 obtain ⟨z,its,n,r,hl,e⟩:=I.vN hH
 obtain ⟨z2,its2,n2,r2,hl2,e2⟩:=I.vN hB
 have hsz:its.toArray.size+its2.toArray.size<=Ao:=by rw[Ad,Ad];lia
 have hlong:¬ (!its.toArray.isEmpty && Builtin.List.listTooLong (its.toArray.size+its2.toArray.size))=true:=by
  rw[jE hsz,CU]
  exact Ak
 refine EV F.slot_list_extend ⟨_,e,rfl⟩ F.entry_list_extend (F.args_list_extend_2 _ _)
  (AutoSeq1.list_extend_list_list_0 l its.toArray n b its2.toArray n2 hlong (by rw[Ad];lia) (by lia)) ⟨e,e2,?_⟩
 refine ⟨.non,_,I.zw (its':=its++its2) hH e (by simp) (r.append r2) ?_,rfl,q⟩
 rw[Ae]
 lia
def rRep:R2:=λx y H Q=>∃l k xs,x = .ref l/\y = .int k/\H l=some (.lst xs) /\ -(2 ^ 63)<=k/\k<2 ^ 63/\xs.length*k.toNat<=Ao ∧
 ∀p,H p=none->Q (.ref p) (upd H p (.lst (AX k.toNat xs).flatten))
theorem len_rep {α:Type}(xs:List α)(k:Nat):(AX k xs).flatten.length=k*xs.length:=by
 induction k with
 | zero=>simp
 | succ k ih=>rw[BS,Ce,Ae,ih,Nat.succ_mul,Nat.add_comm]
theorem tV:OpR X (binaryOp .Mult) rRep:=by
 intro pins s σ H x y v u Q I rx ry h
 obtain ⟨l,k,xs,rfl,rfl,hH,h1,h2,hz,q⟩:=h
 cases rx
 obtain ⟨t,rfl⟩:=ry
 obtain ⟨z,its,n,r,hl,e⟩:=I.vN hH
 have hlen:its.toArray.size*k.toNat<=Ao:=by rw[Ad, <- hl];exact hz
 have hcap:¬ its.toArray.size*k.toNat>(2 ^ 63-1)/8:=by
  have:(Ao:Nat)<=(2 ^ 63-1)/8:=by decide
  lia
 have hfit:¬ (!Builtin.List.listFitsIndex k)=true:=by
  rw[fitsIndex_both h1 h2]
  exact Ak
 have hlong:¬ Builtin.List.listTooLong (its.toArray.size*k.toNat)=true:=by
  rw[jE hlen]
  exact Ak
 have hnew:List.foldl (λx1 x2=>x1++x2) #[] (AX (if its.toArray.isEmpty=true then 0 else k.toNat) its.toArray)=(AX k.toNat its).flatten.toArray:=by
  have f0:∀m:Nat,List.foldl (λx1 x2=>x1++x2) #[] (AX m its.toArray)=(AX m its).flatten.toArray:=λm=>by
   have:=foldl_rep its m []
   rw[Eo] at this
   exact this
  rw[f0]
  cases its with
  | nil=>simp
  | cons a r'=>rw[if_neg (by simp)]
 refine wpAny_binaryOp_repeat_ref (T := "list") (U := "int") (by decide) ⟨_,e,rfl⟩ (λs'=>Ga s' k t) noFill_list_mul F.fills_int_mul Ht repeat_list F.slot_int_index.lookup
  (EV Ht (Ga s k t) F.entry_int_rmul (F.args_int_rmul_2 _ _) (int___rmul___int_list k t l its.toArray n)
   ⟨e,rfl,⟨_,e,rfl⟩,EV F.slot_list_mul ⟨_,e,rfl⟩ F.entry_list_mul (F.args_list_mul_2 _ _) (AutoListH.list___mul___list_int_3 l its.toArray n k t hfit hcap hlong) ⟨e,?_⟩⟩)
 rw[hnew]
 exact ⟨.ref _,_,I.lnew (t':=s.toks) (r.rep k.toNat) (by rw[len_rep,Nat.mul_comm];exact hz),rfl,q _ I.fresh⟩
end
section
variable  {prog:Au}{w:AV}{A:Bd}{E:z9->Ac->Prop}{s:Ac}
end
section
variable  {X:Cx}
end
end L2
namespace Att
open PySem PySem.W PySem.Calls PyProof.Rows
theorem iV {P:Params}{h:Heap}:∀(ns:List Int) (vs:List z9),WellAll P h vs (ns.map WData.int)->CA vs ns:=by
 intro ns
 induction ns with
 | nil =>
  intro vs w
  rw[FT] at w
  cases w
  exact .nil
 | cons n ns ih =>
  intro vs w
  rw[AL] at w
  cases w with
  | cons a b =>
   cases a
   exact .cons _ _ (ih _ b)
theorem rK {l:OpenLaw}{n:Nat}(hn:l.most=some n){P:Params}{h:Heap}{args:List WData}{vals:List z9}
  (hpre:l.row.toRowW.claim.pre args=true) (hwl:WellAll P h vals args) :
  ∃a vs ns,vals=[Ar a]/\args=[WData.list (ns.map WData.int)]/\h.get? a=some { cls :=.type "list",data :=.seq vs.toArray }/\CA vs ns/\ns.length<=n:=by
 have hsh:WShape.hasAll [] args [.list .int]=true:=(pre_splitW hpre).1
 have hc:l.pre.holds [] { args:=args }=true:=(pre_splitW hpre).2
 obtain ⟨d,r,rfl,h1,h2⟩:=hasAllW_cons hsh
 obtain rfl:=hasAllW_nil h2
 obtain ⟨xs,rfl,h3⟩:=hasW_list h1
 obtain ⟨ns,rfl⟩:=items_int h3
 have hlen:ns.length<=n:=by
  unfold OpenLaw.pre at hc
  have h4:(WTm.not (.lt (.lit (.int (n:Int))) (.len (.arg 0)))).holds [] { args:=[.list (ns.map .int)] }=true:=by
   have h4:=(holds_andW hc).1
   rw[hn] at h4
   exact h4
  have h5:=condW_of h4 (w_not (w_lt w_lit (w_len_list (w_arg rfl))))
  rw[z4] at h5
  refine EF λq =>?_
  have q':(n:Int)<((ns.length:Nat):Int):=by omega
  first
   | (rw[decide_eq_true q'] at h5;exact absurd h5 (by decide))
   | (simp at h5;omega)
 cases hwl with
 | cons w1 w2 =>
  cases w2
  cases w1 with
  | list ho hall=>exact ⟨_,_,ns,rfl,rfl,ho,iV ns _ hall,hlen⟩
theorem rL (l:OpenLaw)(args:List WData):l.row.toRowW.claim.post args (.bool true) args=true :=
 postW_of (r:=l.row.toRowW) (X:=(true == true))
  (show WShape.has [] (.bool true) .bool=true by first | rfl | decide | simp[WShape.has,WShape.arms,WShape.armsAll])
  (show (WTm.eq .res (.lit (.bool true))).value [] { args:=args,res:=some (.bool true),after:=args }=some (.bool (true == true)) from w_eq_bool (w_res rfl) w_lit) rfl
theorem nI {l:OpenLaw}{n:Nat}{q:Au}{loose:List Str}{XP:(Str->Option z9)->Heap->Prop}{YP:AV->Heap->Prop}{d:DefRec}
  (hn:l.most=some n) (hdf:d.params.defaults=[])
  (call:∀(w:AV) (s₀ s₁:Ac) (mg mb:Str->Option z9) (fa:Addr) (o:Obj) (pm cd doc:z9) (a:Addr) (vs:List z9) (ns:List Int),
   Ground q loose [] XP w s₀ mg mb s₁.heap->YP w s₁.heap →
   s₁.heap.get? fa=some o->o.data = .func (docDef d.name d.params d.body d.scope pm cd doc)->s₁.heap.CodeRec cd d.name->mg d.name=some (.ref fa) →
   s₁.heap.get? a=some { cls :=.type "list",data :=.seq vs.toArray }->CA vs ns->ns.length<=n->s₁.gens = #[] →
   Ew (AM l.prog w) callerA (.call (.ref fa) ⟨[.ref a],[]⟩) (λr s'=>r = .ok (.ret (.bool true))/\OldK s₁.heap s'.heap/\s'.os=s₁.os/\AllBare s'.gens) s₁) :
  WalkO q loose XP YP l.row.toRowW d [] (λf vs=>PySem.call f vs):=by
 intro w s₀ s₁ mg mb G Y fa o pm cd doc dV kV ho hd hcd hD hmg hg args vals as hpre hlay hrd hwl hlo
 obtain rfl:dV = .none:=Dflts.none hD hdf
 obtain rfl:kV = .none:=Dflts.noKw hD
 obtain ⟨a,vs,ns,rfl,rfl,hobj,hints,hlen⟩:=rK hn hpre hwl
 refine enter_call (Ei (call w s₀ s₁ mg mb fa o pm cd doc a vs ns G Y ho (fd_plain hd) hcd hmg hobj hints hlen hg) λr s' hq =>?_)
 obtain ⟨rfl,h2,h3,h4⟩:=hq
 exact ⟨.inl ⟨.bool true,.bool true,[],rfl,λ_=>rfl,.bool true,rL l _,λ_=>⟨List.Pairwise.nil,λ_ hm=>(nomatch hm)⟩⟩,h2,h3,h4⟩
section
variable  {prog:Au}{w:AV}{A:Bd}{E:z9->Ac->Prop}{s:Ac}{K:Frag}
def ledger (h:Heap)(L d:Addr):List (Addr×Obj):=(Bv h.objs.size).filterMap λa=>if a=L\/a=d then none else (h.get? a).map λo=>(a,o)
end
end Att
namespace L2
open PySem PySem.Spec PyProof.Rows
theorem ic:∀{vs:List z9} {ns:List Int},CA vs ns->Vals (ns.map V.int) vs
 | _,_,.nil =>.nil
 | _,_,.cons n t h =>.cons ⟨t,rfl⟩ (ic h)
def ye (H:Hp):Prop:=∀b,H b=none\/∃o xs,H b=some (.frz o (.lst xs))
theorem tX {P:Au}{w:AV}{K:z8}{mg mb:Str->Option z9}{CX:CXT}{k:Nat}{fa a:Addr}{fd:A3}{x:Str}{sp:Sp}{s₁:Ac}{vs:List z9}{ns:List Int}
  (KX:K.In s₁.heap) (hns:s₁.heap.Ns A9 mg) (hb:s₁.heap.Ns builtinsNs mb) (hbb:∀x:Str,x ≠ "__name__" -> mb x=Bz x) (hlim:s₁.heap.NoLimit) (hg:s₁.gens = #[])
  (ha:s₁.heap.get? a=some { cls :=.type "list",data :=.seq vs.toArray }) (hi:CA vs ns) (hl:ns.length<=Ao) (hr:cg k callerA)
  (F:∀base:Heap,K.In base->base.Ns A9 mg->a7 P w K mg base CX k fa fd [x] sp) (hbind:∀(s:Ac) (u:z9),BindsTo s fd ⟨[u],[]⟩ [(x,u)])
  (hsp:∀H:Hp,ye H->SqL K H a (ns.map V.int)->sp [.ref a] H (λv _=>v = .bl true) λ_ _ _=>False)
  (hCX:∀H e s',CX [] H s₁ (λ_ _ _=>False) e s'->False) :
  Ew (AM P w) callerA (.call (.ref fa) ⟨[.ref a],[]⟩) (λr s'=>r = .ok (.ret (.bool true))/\OldK s₁.heap s'.heap/\s'.os=s₁.os/\AllBare s'.gens) s₁:=by
 have rv:=ic hi
 have lenV:=hi.length
 have core:∀H:Hp,ye H->SqL K H a (ns.map V.int)->HOk P w H s₁.heap->(∀b,H b≠none->b=a)->(H a≠none->K.lookup a=none) →
   Ew (AM P w) callerA (.call (.ref fa) ⟨[.ref a],[]⟩) (λr s'=>r = .ok (.ret (.bool true))/\OldK s₁.heap s'.heap/\s'.os=s₁.os/\AllBare s'.gens) s₁:=by
  intro H hO hS hok hA hK
  have base_of:∀{b:Addr} {o:Obj},s₁.heap.get? b=some o->H b=none->(l8 s₁.heap H).get? b=some o:=λe n=>sW e n
  have noA:∀{b:Addr} {o:Obj} {es:Array DictEntry} {ep:Nat},s₁.heap.get? b=some o->o.data = .dict es ep->H b=none:=λ{b o es ep} e d=>by
   cases q:H b with
   | none=>rfl
   | some u =>
    have e':b=a:=hA b (by rw[q];simp)
    subst e'
    rw[ha] at e;cases e
    have d':Data.seq vs.toArray _=Data.dict es ep:=d
    cases d'
  have nsK:∀{b:Addr} {m:Str->Option z9},s₁.heap.Ns b m->(l8 s₁.heap H).Ns b m:=λ{b m} ⟨o,es,ep,e,d,r⟩=>⟨o,es,ep,base_of e (noA e d),d,r⟩
  have hKb:K.In (l8 s₁.heap H):=λb o e=>base_of (KX b o e) (by
   cases q:H b with
   | none=>rfl
   | some u =>
    have e':b=a:=hA b (by rw[q];simp)
    subst e'
    rw[hK (by rw[q];simp)] at e;cases e)
  have hM:Mod K mg (l8 s₁.heap H):=⟨hKb,nsK hns,⟨mb,nsK hb,hbb⟩,let ⟨mc,h1,h2⟩:=hlim;⟨mc,nsK h1,h2⟩⟩
  have e0:vH P w K mg (l8 s₁.heap H) callerA [] s₁ H:=⟨rfl,hM,λb o e=>vA e,Nat.le_of_eq (rD _ _),trivial,λb hb=>absurd (show b∈([]:List Addr) from hb) (by simp),hok,.of_eq hg⟩
  refine Ei ((F _ hKb (nsK hns)).run callerA [] s₁ H ⟨[.ref a],[]⟩ [.ref a] [.ref a] _ _ hr e0 (hbind s₁ (.ref a)) (.cons rfl .nil) (hsp H hO hS)) λr s' h =>?_
  cases r with
  | error e=>exact (hCX H e s' h).elim
  | ok fl =>
   cases fl with
   | next=>exact False.elim h
   | brk=>exact False.elim h
   | cont=>exact False.elim h
   | ret u =>
    obtain ⟨v,H',os,bare,un,hok',r',q⟩:=h
    have q':v = .bl true:=q
    subst q'
    obtain rfl:u=Value.bool true:=r'
    refine ⟨rfl,OldK.of_keep λb o e =>?_,os,bare⟩
    cases q:H b with
    | none=>exact un.keep b o e q (by intro z;exact absurd (show b∈([]:List Addr) from z) (by simp)) (by simp)
    | some u =>
     rcases hO b with z | ⟨ob,xs,z⟩
     ·rw[q] at z;cases z
     ·have z2:=un.frzs b ob _ z
      obtain ⟨e1,_⟩:=hok b _ z
      obtain ⟨e2,_⟩:=hok' b _ z2
      rw[e] at e1;cases e1
      exact e2
 cases hk:K.lookup a with
 | some o =>
  have e:=KX a o hk
  rw[ha] at e
  cases e
  refine core (λ_=>none) (λ_ =>.inl rfl) (.inr ⟨_,vs.toArray,_,hk,rfl,rfl,rfl,by rw[Ad,lenV];exact hl,by simpa using rv⟩) (λb u z=>by have z':(none:Option HO)=some u:=z;cases z') (λb z=>absurd rfl z) λz=>absurd rfl z
 | none =>
  refine core (λb=>if b=a then some (.frz { cls :=.type "list",data :=.seq vs.toArray } (.lst (ns.map V.int))) else none) (λb =>?_) (.inl (.inr ⟨{ cls :=.type "list",data :=.seq vs.toArray },if_pos rfl⟩)) (λb u z =>?_) (λb z =>?_) λ_=>hk
  ·by_cases hb:b=a
   ·exact .inr ⟨_,_,if_pos hb⟩
   ·exact .inl (if_neg hb)
  ·by_cases hb:b=a
   ·have z':=(if_pos hb).symm.trans z
    cases z'
    subst hb
    exact ⟨ha,by rw[z4];exact hl,vs,_,rv,ha⟩
   ·have z':=(if_neg hb).symm.trans z
    cases z'
  ·by_cases hb:b=a
   ·exact hb
   ·exact absurd (if_neg hb) z
open PySem PySem.Spec PyProof.Rows
theorem vQ {l:PySem.W.OpenLaw}{n k:Nat}{q:Au}{loose:List Str}{XP:(Str->Option z9)->Heap->Prop}{YP:AV->Heap->Prop}{d:DefRec}{K:Params->z8}{CX:AV->CXT}{sp:AV->Sp}{x:Str}
  (hn:l.most=some n) (hn2:n<=Ao) (hdf:d.params.defaults=[]) (hr:cg k callerA)
  (hY:∀(w:AV) (h:Heap),YP w h->(K w.params).In h)
  (F:∀(w:AV) (mg:Str->Option z9) (fa:Addr) (h:Heap),(K w.params).In h->h.Ns A9 mg->mg d.name=some (.ref fa) →
   ∃fd:A3,(∀(s:Ac) (u:z9),BindsTo s fd ⟨[u],[]⟩ [(x,u)]) ∧
    ∀base:Heap,(K w.params).In base->base.Ns A9 mg->a7 l.prog w (K w.params) mg base (CX w) k fa fd [x] (sp w))
  (hsp:∀(w:AV) (H:Hp) (a:Addr) (ns:List Int),ns.length<=n->ye H->SqL (K w.params) H a (ns.map V.int)->sp w [.ref a] H (λv _=>v = .bl true) λ_ _ _=>False)
  (hCX:∀(w:AV) (H:Hp) (s:Ac) (e:z9) (s':Ac),CX w [] H s (λ_ _ _=>False) e s'->False) :
  PySem.W.WalkO q loose XP YP l.row.toRowW d [] (λf vs=>PySem.call f vs):=by
 refine Att.nI hn hdf λw s₀ s₁ mg mb fa o pm cd doc a vs ns G Y ho hd hcd hmg hobj hints hlen hg =>?_
 have KX:=hY w _ Y
 obtain ⟨fd,hb,hF⟩:=F w mg fa _ KX G.T.g hmg
 exact tX KX G.T.g G.T.b G.T.builtins G.T.nolimit hg hobj hints (A4 hlen hn2) hr hF hb (λH hO hS=>hsp w H a ns hlen hO hS) λH e s'=>hCX w H s₁ e s'
open PySem PySem.Spec PyProof.Rows
def bE (s:Stmt):Arguments:=match s with
 | .FunctionDef _ a _ _ _ _ _ _ _ _=>a
 | _=>{ posonlyargs:=[],args:=[],vararg:=none,kwonlyargs:=[],kw_defaults:=[],kwarg:=none,defaults:=[] }
def ba (s:Stmt):List Stmt:=match s with
 | .FunctionDef _ _ b _ _ _ _ _ _ _=>b
 | _=>[]
def ak (s:Stmt):Scope:=match s with
 | .FunctionDef _ _ _ _ _ _ sc _ _ _=>sc
 | _=>{ kind :=.function,names:=[],isGenerator:=false,isCoroutine:=false }
abbrev CX0:CXT:=λ_ _ _ _ _ _=>False
abbrev E0:XK:=λ_ _ _=>False
theorem xt {X:Cx}:Passes CX0 X E0:=λ_ _ _ _ _ _ _ h=>h.elim
structure Fun (K:z8)(x qual:Str)(st:Stmt)(f:Addr)(fd:A3):Prop where
 ex:∃(oc:z9) (od:Option Addr) (kV doc pm:z9) (an:Option Addr) (cdv ct:z9) (osl:Array (Option z9)),
  fd=PySem.W.fnOf x qual (bE st) (ba st) (ak st) .none kV doc pm an cdv ct/\K.lookup f=some ⟨oc,od,.func fd,osl⟩/\PySem.W.codeIn K cdv qual=true
 kp:PySem.W.keepIn K (.ref f)=true
section
variable  {P:Au}{w:AV}{K:z8}{mg:Str->Option z9}{base:Heap}
theorem Fun.ok {x qual:Str}{st:Stmt}{f:Addr}{fd:A3}{N ps:List Str}{k:Nat}{sp:Sp}(F:Fun K x qual st f fd)(S:aE N ps (ak st))(len:∀vs H Q E,sp vs H Q E->vs.length=ps.length)
  (hbody:∀(cdv:z9) (A:Bd) (outer:List Env) (s:Ac) (H:Hp) (vs:List V) (Q:VK) (E:XK),cg k (A.deeper (envOfC qual (ak st) s.heap.objs.size f cdv))->sp vs H Q E →
   ∃t,PSs (iU CX0 P w K mg base N qual (ak st) f cdv A outer s H E).nox (ba st) t/\t { nx:=λ_ H'=>Q .non H',rt:=Q } (start N vs) H):a7 P w K mg base CX0 (k+1) f fd ps sp:=by
 obtain ⟨oc,od,kV,doc,pm,an,cdv,ct,osl,rfl,lk,hcd⟩:=F.ex
 refine xr lk hcd S len λA outer s H vs Q E hr hsp =>?_
 obtain ⟨t,h,q⟩:=hbody cdv A outer s H vs Q E hr hsp
 exact ⟨t,h.nox,q⟩
theorem Fun.binds {x qual:Str}{st:Stmt}{f:Addr}{fd:A3}{ps:List Str}(F:Fun K x qual st f fd)
  (h:∀(kV doc pm:z9) (an:Option Addr) (cdv ct:z9) (us:List z9),us.length=ps.length->bindArgs (PySem.W.fnOf x qual (bE st) (ba st) (ak st) .none kV doc pm an cdv ct) ⟨us,[]⟩=pure (ps.zip us)):Binds K fd ps []:=by
 obtain ⟨oc,od,kV,doc,pm,an,cdv,ct,osl,rfl,lk,hcd⟩:=F.ex
 exact .all (h kV doc pm an cdv ct)
theorem tZ {x qual:Str}{st:Stmt}{f:Addr}{oc:z9}{od an:Option Addr}{osl:Array (Option z9)}{kV doc pm cdv ct:z9}(l:K.lookup f=some ⟨oc,od,.func (PySem.W.fnOf x qual (bE st) (ba st) (ak st) .none kV doc pm an cdv ct),osl⟩)
  (c:PySem.W.codeIn K cdv qual=true) (k:PySem.W.keepIn K (.ref f)=true):Fun K x qual st f (PySem.W.fnOf x qual (bE st) (ba st) (ak st) .none kV doc pm an cdv ct):=⟨⟨oc,od,kV,doc,pm,an,cdv,ct,osl,rfl,l,c⟩,k⟩
end
theorem nJ {A:Bd}{k:Nat}(hr:cg k A):A.units+1<cLine:=CG (D7 (by decide:1<=64) _) hr.units
theorem fB {n:Nat}(h:n<=1000):n<Ao:=CG h (by decide)
section
variable  {X:Cx}
theorem pv (i:Nat){x:Str}{pos:Pos}(hN:X.N[i]? = some x:=by rfl)(hv:Vis X.env.scope x:=by first | exact Or.inl rfl | exact Or.inr (Or.inl rfl) | exact Or.inr (Or.inr rfl))(hd:(x == ("__debug__" : Str))=false:=by decide)
  (hcd:(x == ("__classdict__" : Str))=false:=by decide):PE X (.Name x pos) (yZ i):=xP hN hv hd hcd
end
theorem aX {A B:Prop}(h:B):if false=true then A else B:=by
 rw[if_neg Ak]
 exact h
theorem a9 {A B:Prop}(h:A):if true=true then A else B:=by
 rw[if_pos rfl]
 exact h
theorem dQ {c A B:Prop}[Decidable c](h1:c->A)(h2:¬ c->B):if c then A else B:=by
 by_cases h:c
 ·rw[if_pos h]
  exact h1 h
 ·rw[if_neg h]
  exact h2 h
theorem zx {c A B:Prop}[Decidable c](hc:c)(h:B):if (!decide c)=true then A else B:=by
 rw[decide_eq_true hc]
 exact aX h
def aA (H H':Hp):Prop:=∀b o,H b=some o->H' b=some o
theorem aA.refl (H:Hp):aA H H:=λ_ _ h=>h
theorem aA.trans {H H1 H2:Hp}(a:aA H H1)(b:aA H1 H2):aA H H2:=λc o h=>b c o (a c o h)
theorem aA.free {H H':Hp}(e:aA H H'){l:Addr}(h:H' l=Option.none):H l=Option.none:=by
 cases q:H l with
 | none=>rfl
 | some o =>
  rw[e l o q] at h
  cases h
theorem aA.seq {K:z8}{H H':Hp}{a:Addr}{xs:List V}(e:aA H H')(h:SqL K H a xs):SqL K H' a xs:=by
 rcases h with (h | ⟨o,h⟩) | h
 ·exact .inl (.inl (e _ _ h))
 ·exact .inl (.inr ⟨o,e _ _ h⟩)
 ·exact .inr h
end L2
set_option maxHeartbeats 4000000
namespace L2
open PySem PySem.Spec PyProof.Rows
def nK (on:List (Str×NameKind))(N:List Str)(sc:Scope)(N':List Str)(ix:List (Option Nat)):Bool :=
 decide (sc.kind = .function) &&
 sc.names.all (λy=>match y.2 with
  | .local=>decide (sc.names.lookup y.1=some .local)
  | .cell=>false
  | .free=>decide (on.lookup y.1=some .cell) || decide (on.lookup y.1=some .free)
  | _=>true) &&
 decide (ix.length=N'.length) &&
 (ix.zip N').all (λp=>match p.1 with
  | none=>true
  | some j=>decide (N[j]? = some p.2) && decide (sc.names.lookup p.2=some .free))
theorem iN {ns:List (Str×NameKind)}{y:Str}{k:NameKind}(h:ns.lookup y=some k):(y,k)∈ns:=C3 h
structure jF (on:List (Str×NameKind))(N:List Str)(sc:Scope)(N':List Str)(ix:List (Option Nat)):Prop where
 kind:sc.kind = .function
 locs:∀y∈sc.names,y.2 = .local->sc.names.lookup y.1=some .local
 nocell:∀y∈sc.names,y.2 ≠ .cell
 frees:∀y∈sc.names,y.2 = .free->on.lookup y.1=some .cell\/on.lookup y.1=some .free
 len:ix.length=N'.length
 slot:∀(i j:Nat) (y:Str),ix[i]? = some (some j)->N'[i]? = some y->N[j]? = some y/\sc.names.lookup y=some .free
theorem jF.of {on:List (Str×NameKind)}{N:List Str}{sc:Scope}{N':List Str}{ix:List (Option Nat)}(h:nK on N sc N' ix=true):jF on N sc N' ix:=by
 unfold nK at h
 rw[BD,BD,BD] at h
 obtain ⟨⟨⟨h1,h2⟩,h3⟩,h4⟩:=h
 rw[Dg] at h2 h4
 refine ⟨of_decide_eq_true h1,λy hy e =>?_,λy hy e =>?_,λy hy e =>?_,of_decide_eq_true h3,λi j y e1 e2 =>?_⟩
 ·have q:=h2 y hy
  rw[e] at q
  exact of_decide_eq_true q
 ·have q:=h2 y hy
  rw[e] at q
  cases q
 ·have q:=h2 y hy
  rw[e] at q
  exact ((Bool.or_eq_true _ _).mp q).imp of_decide_eq_true of_decide_eq_true
 ·have q:=h4 (some j,y) (Aj (i:=i) (by rw[Fd];exact ⟨e1,e2⟩))
  dsimp only at q
  rw[BD] at q
  exact ⟨of_decide_eq_true q.1,of_decide_eq_true q.2⟩
theorem iO {α β:Type}(f:α -> β -> β)(b:α -> β -> Sem (ForInStep β)):∀(l:List α) (c:β),(∀x∈l,∀d,b x d=pure (.yield (f x d)))->forIn l c b=pure (l.foldl (λd x=>f x d) c)
 | [],c,_=>rfl
 | x :: l,c,h=>by
  rw[List.forIn_cons,h x AN,pure_bind]
  exact iO f b l (f x c) λy hy=>h y (AK _ hy)
def aR (env:Env)(l:List (Str×NameKind))(c:List (Str×Addr)):List (Str×Addr) :=
 l.foldl (λd y=>if y.2 = .free then (y.1,(env.cells.lookup y.1).getD 0) :: d else d) c
theorem o7 {sc:Scope}{env:Env}(h:∀y∈sc.names,y.2 = .free->∃c,env.cells.lookup y.1=some c):closureFor sc env=pure (aR env sc.names []):=by
 simp only[closureFor]
 unfold aR
 rw[iO (λy d=>if y.2 = .free then (y.1,(env.cells.lookup y.1).getD 0) :: d else d)]
 ·rfl
 ·rintro ⟨n,k⟩ hy d
  by_cases hk:k = .free
  ·subst hk
   obtain ⟨c,e⟩:=h _ hy rfl
   have e':env.cells.lookup n=some c:=e
   simp only[beq_self_eq_true,if_true,cellOf,e',Option.getD_some]
   rfl
  ·have hb:(k == NameKind.free)=false:=by simpa using hk
   simp only[hb,Ay,if_false,hk]
theorem cO {env:Env}{y:Str}{c:Addr}:∀(l:List (Str×NameKind)) (d:List (Str×Addr)),(∀z∈l,z.2 = .free->∃c,env.cells.lookup z.1=some c)->(aR env l d).lookup y=some c →
  d.lookup y=some c\/env.cells.lookup y=some c
 | [],d,_,h =>.inl h
 | (n,k) :: l,d,hf,h=>by
  have h':(aR env l (if k = .free then (n,(env.cells.lookup n).getD 0) :: d else d)).lookup y=some c:=h
  have ih:=cO l _ (λz hz=>hf z (AK _ hz)) h'
  by_cases hk:k = .free
  ·subst hk
   rw[if_pos rfl] at ih
   rcases ih with q | q
   ·rw[DX] at q
    cases hx:(y == n) with
    | true =>
     rw[hx] at q
     obtain ⟨c',e⟩:=hf (n,.free) AN rfl
     have e':env.cells.lookup n=some c':=e
     have q':some ((env.cells.lookup n).getD 0)=some c:=q
     rw[e'] at q'
     have en:y=n:=eq_of_beq hx
     rw[en,e']
     exact .inr q'
    | false =>
     rw[hx] at q
     exact .inl q
   ·exact .inr q
  ·rw[if_neg hk] at ih
   exact ih
theorem dR {env:Env}{y:Str}:∀(l:List (Str×NameKind)) (d:List (Str×Addr)),((y,NameKind.free)∈l\/∃c,d.lookup y=some c)->∃c,(aR env l d).lookup y=some c
 | [],d,h=>by
  rcases h with h | h
  ·cases h
  ·exact h
 | (n,k) :: l,d,h=>by
  show ∃c,(aR env l (if k = .free then (n,(env.cells.lookup n).getD 0) :: d else d)).lookup y=some c
  refine dR l _ ?_
  have old:(∃c,d.lookup y=some c)->∃c,(if k = .free then (n,(env.cells.lookup n).getD 0) :: d else d).lookup y=some c:=λ⟨c,e⟩=>by
   by_cases hk:k = .free
   ·rw[if_pos hk,DX]
    cases hx:(y == n) with
    | true=>exact ⟨_,rfl⟩
    | false=>exact ⟨c,e⟩
   ·rw[if_neg hk];exact ⟨c,e⟩
  rcases h with h | h
  ·rcases AJ.mp h with q | q
   ·cases q
    rw[if_pos rfl,DX,beq_self_eq_true]
    exact .inr ⟨_,rfl⟩
   ·exact .inl q
  ·exact .inr (old h)
theorem jG {c:Str->NameKind->Bool}{y:Str}:∀l:List (Str×NameKind),(l.map λz=>if c z.1 z.2=true then (z.1,NameKind.cell) else (z.1,z.2)).lookup y=(l.lookup y).map λk=>if c y k=true then NameKind.cell else k
 | []=>rfl
 | (n,k) :: l=>by
  have ih:=jG (c:=c) (y:=y) l
  rw[AL]
  have e:(if c n k=true then (n,NameKind.cell) else (n,k))=(n,if c n k=true then NameKind.cell else k):=by split <;> rfl
  show List.lookup y ((if c n k=true then (n,NameKind.cell) else (n,k)) :: _)=_
  rw[e,DX,DX]
  cases hx:(y == n) with
  | true =>
   have en:y=n:=eq_of_beq hx
   subst en
   rfl
  | false=>exact ih
def blk (X:Cx)(sc:Scope)(cl:List (Str×Addr))(C:Addr)(N':List Str)(s:Ac)(H:Hp)(fp:List Addr):Cx :=
 { X with N:=N',s₀:=s,H₀:=H,env:=compEnvC sc cl C X.env,outer:=X.stack,ex:=fp,fn:=λ_=>false,pn:=[],xe:=λ_ _=>False }
def PF (X:Cx)(ifs:List Expr)(t:TT):Prop :=
  ∀(pins:List (Addr×Obj)) (s:Ac) (σ:St) (H:Hp) (Q:Bool->Hp->Prop),Inv X pins σ H s->t σ H Q →
    AA (AM X.prog X.w) X.A (forIn ifs true λc r=>if r=true then do let ok ← isTrue c X.env (eval c X.env);pure (ForInStep.yield ok) else pure (ForInStep.yield r)) (TP X pins σ Q) X.xe s
theorem jH {X:Cx}:PF X [] (λ_ H Q=>Q true H):=λ_ _ _ H _ I h=>wpAny_tests_nil ⟨H,I,h⟩
theorem dS {X:Cx}{c:Expr}{t:TT}(h:PT X c t):PF X [c] t:=λpins s σ H Q I q=>wpAny_tests_one (h pins s σ H Q I q)
def inner (ix:List (Option Nat))(σ:St):St:=ix.map λo=>match o with | none=>none | some j=>(σ[j]?).join
def qr (J:It)(g:TG)(tc:TT)(te:TE)(τ:St)(Q:VK)(H1:Hp):Prop:=∃W:Nat->Nat->St->List V->Hp->Prop,(∃m,W 0 m τ [] H1)/\∀i m τ ys H,W i m τ ys H →
 (J.stop i H/\ys.length<=Ao/\∀l,H l=none->Q (.ref l) (upd H l (.lst ys))) ∨
 (J.go i H/\∀x H',J.yld i H x H'->g x τ H' λτ2 H2=>tc τ2 H2 λb H3=>if b=true then te τ2 H3 λy H4=>ys.length<Ao/\∃m',m'<m/\W (i+1) m' τ2 (ys++[y]) H4 else ∃m',m'<m/\W (i+1) m' τ2 ys H3)
def t6 (ix:List (Option Nat))(wi:TI)(g:TG)(tc:TT)(te:TE):TE:=λσ H Q=>wi σ H λJ H1=>qr J g tc te (inner ix σ) Q H1
section
variable  {X:Cx}{sc:Scope}{N':List Str}{ix:List (Option Nat)}{pins:List (Addr×Obj)}{σ:St}{H:Hp}{s:Ac}
theorem yf (I:Inv X pins σ H s)(K:jF X.env.scope.names X.N sc N' ix){C:Addr}{fp:List Addr}(hC:s.heap.objs.size<=C)(f:∀b∈fp,kj X pins H b)(fl:∀b∈fp,b<s.heap.objs.size) :
  (blk X sc (aR X.env sc.names []) C N' s H fp).Ok:=by
 have hcl:∀y∈sc.names,y.2 = .free->∃c,X.env.cells.lookup y.1=some c:=λy hy e=>I.ok.has y.1 (K.frees y hy e)
 have up:∀y c,(aR X.env sc.names []).lookup y=some c->X.env.cells.lookup y=some c:=λy c e=>by
  rcases cO sc.names [] hcl e with q | q
  ·cases q
  ·exact q
 have nfs:∀b∈fp,b∉frs X.stack:=λb hb z=>by
  rcases AJ.mp (I.ma b z) with q | q
  ·exact (f b hb).2.1 q
  ·exact (f b hb).2.2.1 q
 refine ⟨I.ok.mod,K.kind,I.ok.glob,I.ok.blt,hC,λy z c h1 h2=>I.ok.inj y z c (up _ _ h1) (up _ _ h2),λy hy =>?_,(λy c h=>nomatch h),I.ok.hd,I.ok.frames,.inl rfl,λb hb =>?_,λb o e=>I.bs b o e,A4 I.ok.bsz I.sz,λb o e hb =>?_,nfs,I.stack,I.qf⟩
 ·have hy':(relabel sc X.env).names.lookup y=some .cell\/(relabel sc X.env).names.lookup y=some .free:=hy
  have em:=jG (c:=λn k=>k == .free && X.env.scope.kind == .function && X.env.kindOf n == some .cell) (y:=y) sc.names
  have em':(relabel sc X.env).names.lookup y=_:=em
  rw[em'] at hy'
  cases hq:sc.names.lookup y with
  | none=>rw[hq] at hy';rcases hy' with q | q <;> cases q
  | some k =>
   have km:=iN hq
   have hk:k = .free:=by
    rw[hq] at hy'
    simp only[Du,Option.some.injEq] at hy'
    by_cases hc:(k == .free && X.env.scope.kind == .function && X.env.kindOf y == some .cell)=true
    ·rw[BD,BD] at hc
     exact by simpa using hc.1.1
    ·rw[if_neg hc] at hy'
     rcases hy' with q | q
     ·exact absurd q (K.nocell _ km)
     ·exact q
   subst hk
   exact dR sc.names [] (.inl km)
 ·exact ⟨AD (Ax (fl b hb) hC),λy c e=>(f b hb).2.2.2.2.1 y c (up y c e)⟩
 ·rcases (f b hb).2.2.2.1 with q | q
  ·exact I.ok.noex b o e q
  ·exact absurd (Ax (An e) (A4 I.ok.bsz q)) (A5 _)
theorem vR (I:Inv X pins σ H s)(K:jF X.env.scope.names X.N sc N' ix){C:Addr}{fp:List Addr}(hC:s.heap.objs.size<=C)(f:∀b∈fp,kj X pins H b)(fl:∀b∈fp,b<s.heap.objs.size)
  {h1:Heap} {t:Nat} {m:Str->Option z9} (k:∀b o,s.heap.get? b=some o->h1.get? b=some o) (ns:h1.Ns C m) :
  Inv (blk X sc (aR X.env sc.names []) C N' s H fp) [] (inner ix σ) H { s with heap:=h1,toks:=t }:=by
 have hcl:∀y∈sc.names,y.2 = .free->∃c,X.env.cells.lookup y.1=some c:=λy hy e=>I.ok.has y.1 (K.frees y hy e)
 have up:∀y c,(aR X.env sc.names []).lookup y=some c->X.env.cells.lookup y=some c:=λy c e=>by
  rcases cO sc.names [] hcl e with q | q
  ·cases q
  ·exact q
 refine ⟨yf I K hC f fl,rfl,I.bare,Un.kept k,⟨m,ns,λi y v e1 e2 e3 =>?_⟩,λy c e =>?_,I.hok.fresh hC,λy c e=>I.freeC y c (up y c e),(λp hp=>nomatch hp),I.hok.kept k,?_⟩
 ·have e2':(ix.map λo=>match o with | none=>none | some j=>(σ[j]?).join)[i]? = some (some v):=e2
  rw[Aw] at e2'
  cases hi:ix[i]? with
  | none=>rw[hi] at e2';cases e2'
  | some o =>
   cases o with
   | none=>rw[hi] at e2';cases e2'
   | some j =>
    rw[hi] at e2'
    have e4:(σ[j]?).join=some v:=AI e2'
    have e5:σ[j]? = some (some v):=by
     cases hj:σ[j]? with
     | none=>rw[hj] at e4;cases e4
     | some z=>rw[hj] at e4;rw[show z=some v from e4]
    obtain ⟨n1,n2⟩:=K.slot i j y hi e1
    have mem:=iN n2
    have kc:X.env.kindOf y=some .cell\/X.env.kindOf y=some .free:=K.frees _ mem rfl
    obtain ⟨m',_,hl⟩:=I.loc
    obtain ⟨u,r,l⟩:=hl j y v n1 e5 (.inr kc)
    refine ⟨u,r,?_⟩
    rcases l with ⟨q,_⟩ | ⟨_,c,q,z⟩
    ·rcases kc with kc | kc <;> (rw[kc] at q;cases q)
    ·obtain ⟨c',hc'⟩:=dR (env:=X.env) (y:=y) sc.names [] (.inl mem)
     have:=up y c' hc'
     rw[q] at this
     cases this
     refine .inr ⟨?_,c,hc',z.keeps k⟩
     have em:=jG (c:=λn k=>k == .free && X.env.scope.kind == .function && X.env.kindOf n == some .cell) (y:=y) sc.names
     have em':(relabel sc X.env).names.lookup y=_:=em
     rcases kc with kc | kc
     ·left
      show (relabel sc X.env).names.lookup y=some .cell
      rw[em',n2]
      simp only[Du,kc,I.ok.kind]
      rfl
     ·right
      show (relabel sc X.env).names.lookup y=some .free
      rw[em',n2]
      simp only[Du,kc,I.ok.kind]
      rfl
 ·obtain ⟨v,z⟩:=I.cell y c (up y c e)
  exact ⟨v,z.keeps k⟩
 ·show (ix.map _).length=N'.length
  rw[z4]
  exact K.len
end
open PySem PySem.Spec PyProof.Rows
theorem o8 {prog:Au}{w:AV}{A:Bd}{R:Result->Ac->Prop}{s:Ac}{elt target iter:Expr}{ifs:List Expr}{sc:Scope}{pos:Pos}{it acc:z9}{env:Env}(J:Nat->Ac->Prop)
    (turn:∀n s,J n s->AA (AM prog w) A (pyNext it) (λr s1=>match r with
      | none=>R (.ok .next) s1
      | some v=>AA (AM prog w) A (letOwnedTupleGo target it v) (λ_ s2=>AA (AM prog w) A (assign target env v) (λ_ s3 =>
          AA (AM prog w) A (forIn ifs true λc r=>if r=true then do let ok ← isTrue c env (eval c env);pure (ForInStep.yield ok) else pure (ForInStep.yield r)) (λok s4 =>
            if ok=true then AA (AM prog w) A (eval elt env) (λx s5=>AA (AM prog w) A (call (.builtin "list.append") [acc,x]) (λ_ s6=>∃m,m<n/\J m s6) (λ_ _=>False) s5) (λ_ _=>False) s4
            else ∃m,m<n/\J m s4) (λ_ _=>False) s3) (λ_ _=>False) s2) (λ_ _=>False) s1) (λ_ _=>False) s)
    (n:Nat) (h:J n s):Ew (AM prog w) A (.compLoop (.ListComp elt [⟨target,iter,ifs,0⟩] sc pos) 0 it acc env) R s:=by
  refine codeAny_loop rfl J (λk t q =>?_) n h
  show AA _ A (Sem.onRaise (compTurn (.ListComp elt [⟨target,iter,ifs,0⟩] sc pos) 0 it acc env) (λx=>do noteFrame x env;theTreesLotGoes x)) _ _ t
  refine wpAny_noted ?_
  rw[compTurn_list]
  have no:∀{E:z9->Ac->Prop} (x:z9) (t:Ac),False->E x t:=λ_ _ z=>z.elim
  refine zY (Et (zY (Cz (turn k t q) (λr s1 h1 =>?_) no)))
  cases r with
  | none=>exact Aa h1
  | some v =>
    refine zY (Cz h1 (λ_ s2 h2=>zY (Cz h2 (λ_ s3 h3=>zY (Cz h3 (λok s4 h4 =>?_) no)) no)) no)
    cases ok with
    | false=>exact Aa ⟨rfl,h4⟩
    | true=>exact zY (zY (Cz h4 (λx s5 h5=>zY (Cz h5 (λ_ s6 h6=>Aa (Aa ⟨rfl,h6⟩)) no)) no))
section
variable  {X:Cx}
def vS (X:Cx)(pins:List (Addr×Obj))(σ:St)(Q:VK)(use:Option (z9->Sem Unit))(Q2:z9->Ac->Prop):Prop :=
 ∀(s4:Ac) (H3:Hp) (acc C:Addr) (ys:List V) (oC:Obj),Inv X (pins++[(C,oC)]) σ (upd H3 acc (.lst ys)) s4->(∃m,s4.heap.Ns C m)->X.s₀.heap.objs.size<=C->(∀x c,X.env.cells.lookup x=some c->c≠C)->(∀p∈X.pn++pins,p.1≠C)->Q (.ref acc) (upd H3 acc (.lst ys)) →
  compPost (AM X.prog X.w) X.A X.xe use Q2 (.ref acc) C (.ok .next) s4
theorem kU {elt target iter:Expr}{ifs:List Expr}{sc:Scope}{pos ps:Pos}{wi:TI}{g:TG}{tc:TT}{te:TE}{N':List Str}{ix:List (Option Nat)}{use:Option (z9->Sem Unit)}{Q2:z9->Ac->Prop}
  {pins:List (Addr×Obj)} {s:Ac} {σ:St} {H:Hp} {Q:VK}
  (hcalm:X.calm=true) (hi:PI X target iter wi) (hk:nK X.env.scope.names X.N sc N' ix=true)
  (hg:∀cl C s H fp,PG (blk X sc cl C N' s H fp) target g) (hc:∀cl C s H fp,PF (blk X sc cl C N' s H fp) ifs tc) (he:∀cl C s H fp,PE (blk X sc cl C N' s H fp) elt te)
  (hs:∀x,foldedSetIterable iter X.env x=pure x) (fin:vS X pins σ Q use Q2) (I:Inv X pins σ H s) (h:t6 ix wi g tc te σ H Q) :
  AA (AM X.prog X.w) X.A (comprehension (.ListComp elt [⟨target,iter,ifs,0⟩] sc pos) sc X.env ps (newList []) false (eval iter X.env) use) Q2 X.xe s:=by
 have K:=jF.of hk
 have hcl:∀y∈sc.names,y.2 = .free->∃c,X.env.cells.lookup y.1=some c:=λy hy e=>I.ok.has y.1 (K.frees y hy e)
 refine wpAny_comprehension_free rfl hs (o7 hcl) K.kind K.locs (thn (hi pins s σ H _ I h) λv s1 h1=>thn h1 λitv s2 h2 =>?_)
 obtain ⟨it,fp,tn,J,H2,e,I2,T,st2,f2,W,⟨m0,w0⟩,turn⟩:=h2
 subst e
 refine A2 (wpAny_newFunctionEnv K.nocell (by intro y hy;simp at hy) (λh1 ns1 sb1 =>?_) K.kind)
 dsimp only at ns1 sb1 ⊢
 generalize hP:s2.heap.push { cls :=.type "list",dict:=none,data :=.seq ([]:List z9).toArray }=G at ns1 sb1 ⊢
 have sG:G.objs.size=s2.heap.objs.size+1:=by rw[<- hP,B7]
 have fl:∀b∈fp,b<s2.heap.objs.size:=λb hb=>by
  obtain ⟨o,e,_⟩:=T.obj _ _ st2 b hb
  exact An e
 have hC:s2.heap.objs.size<=G.objs.size:=by rw[sG];exact Nat.le_succ _
 have aC:s2.heap.objs.size≠G.objs.size:=by rw[sG];exact AD (BK _)
 have old:∀b o,s2.heap.get? b=some o->h1.get? b=some o:=λb o e=>by
  have lt:=An e
  have ne:b≠G.objs.size:=AD (Ax lt hC)
  rw[sb1.2 b ne]
  exact zZ _ (hP ▸ zZ _ e)
 have accO:h1.PlainList s2.heap.objs.size #[]:=⟨_,by
  rw[sb1.2 _ aC]
  exact zZ _ (hP ▸ Am _ rfl)⟩
 have IB:=vR (t:=s2.toks+([]:List (Str×z9)).length) I2 K hC f2 fl old ns1
 have up:∀y c,(aR X.env sc.names []).lookup y=some c->X.env.cells.lookup y=some c:=λy c e=>by
  rcases cO sc.names [] hcl e with q | q
  ·cases q
  ·exact q
 have accNotCell:∀y c,(aR X.env sc.names []).lookup y=some c->c≠s2.heap.objs.size:=λy c e z=>by
  obtain ⟨v,q⟩:=I2.cell y c (up y c e)
  exact absurd q.lt (by rw[z];exact A5 _)
 have accFs:s2.heap.objs.size∉frs X.stack:=λz=>by
  rcases AJ.mp (I2.ma _ z) with q | q
  ·exact absurd I2.lt (by rw[<- q];exact A5 _)
  ·exact I2.xO (Ag _) q
 have accFp:s2.heap.objs.size∉fp:=λz=>absurd (fl _ z) (A5 _)
 have stat:∀{H':Hp} {ob:Obj},(∀b∈fp,H' b=none)->∀b∈fp,kj (blk X sc (aR X.env sc.names []) G.objs.size N' s2 H2 fp) [(s2.heap.objs.size,ob)] H' b:=λ{H' ob} hn b hb=>by
  refine ⟨hn b hb,AD (Ax (fl b hb) hC),IB.ok.exfs b hb,.inl hb,λy c e=>(f2 b hb).2.2.2.2.1 y c (up y c e),λp hp z =>?_⟩
  have ep:p=(s2.heap.objs.size,ob):=by simpa [blk] using hp
  subst ep
  exact accFp (by rw[show s2.heap.objs.size=b from z];exact hb)
 have accPin:∀{pl:List (Addr×Obj)} {σ':St} {H':Hp} {s':Ac} {its:Array z9} {n:Nat},Inv (blk X sc (aR X.env sc.names []) G.objs.size N' s2 H2 fp) pl σ' H' s'->s'.heap.get? s2.heap.objs.size=some { cls :=.type "list",data :=.seq its n } →
   H' s2.heap.objs.size=none->Inv (blk X sc (aR X.env sc.names []) G.objs.size N' s2 H2 fp) [(s2.heap.objs.size,{ cls :=.type "list",data :=.seq its n })] σ' H' s':=λ{pl σ' H' s' its n} J' e nn=>J'.gD λp hp=>by
  have ep:p=(s2.heap.objs.size,({ cls :=.type "list",data :=.seq its n }:Obj)):=by simpa [blk] using hp
  subst ep
  exact ⟨e,nn,aC,accFs,λv z=>nomatch z⟩
 have loop:Ew (AM X.prog X.w) X.A (.compLoop (.ListComp elt [⟨target,iter,ifs,0⟩] sc pos) 0 (.ref it) (.ref s2.heap.objs.size) (compEnvC sc (aR X.env sc.names []) G.objs.size X.env))
   (compPost (AM X.prog X.w) X.A X.xe use Q2 (.ref s2.heap.objs.size) G.objs.size) { s2 with heap:=h1,toks:=s2.toks+([]:List (Str×z9)).length }:=by
  refine o8 (λn s'=>∃i ys its nn σ' H',Inv (blk X sc (aR X.env sc.names []) G.objs.size N' s2 H2 fp) [(s2.heap.objs.size,{ cls :=.type "list",data :=.seq its nn })] σ' H' s'/\Vals ys its.toList/\tn i s'.heap/\(∀b∈fp,H' b=none)/\W i n σ' ys H')
   (λn s3 h3 =>?_) m0 ?_
  ·obtain ⟨i,ys,its,nn,σ3,H3,I3,r3,st3,fr3,w3⟩:=h3
   obtain ⟨e3,a3,_,_,_⟩:=I3.pin (s2.heap.objs.size,{ cls :=.type "list",data :=.seq its nn }) (by simp[blk])
   rcases turn i n σ3 ys H3 w3 with ⟨stop,zl,q3⟩ | ⟨go,step⟩
   ·refine thn (T.done (blk X sc (aR X.env sc.names []) G.objs.size N' s2 H2 fp) rfl rfl rfl hcalm i _ s3 σ3 H3 _ I3 (stat fr3) st3 stop) λr s4 ⟨hr,I4⟩ =>?_
    subst hr
    obtain ⟨e4,a4,_,_,_⟩:=I4.pin (s2.heap.objs.size,{ cls :=.type "list",data :=.seq its nn }) (by simp[blk])
    obtain ⟨m4,n4,_⟩:=I4.loc
    obtain ⟨oC,es4,ep4,c4,d4,r4⟩:=id n4
    have ltA:∀b o,s2.heap.get? b=some o->b≠s2.heap.objs.size:=λb o e=>AD (An e)
    have B:=I4.base
    have hok:HOk X.prog X.w (upd H3 s2.heap.objs.size (.lst ys)) s4.heap:=λb o e=>by
     by_cases hb:b=s2.heap.objs.size
     ·subst hb
      rw[ah] at e
      cases e
      exact ⟨zl,its.toList,nn,r3,e4⟩
     ·rw[aD hb] at e
      refine (I4.hok b o e).stay (λc u hc q=>q) (λc q =>?_) (λc xs q =>?_)
      ·rw[aD (aN q a4)];exact q
      ·rw[aD (aN q a4)];exact q
    have I5:Inv X pins σ (upd H3 s2.heap.objs.size (.lst ys)) s4:=by
     refine I2.yY (ch:=fp) I4.os ⟨λb o e n hb hx=>B.keep b o e n hb hx,λb o e n hb hx=>B.slot b o e n hb hx,λb o e n hx =>?_,λb o e hx=>B.there b o e hx,λb xs e =>?_,λb o u e =>?_,λb ps e =>?_⟩ hok I4.bare (λb hb =>?_)
     ·rw[aD (ltA b o e)];exact B.free b o e n hx
     ·have q:=B.tups b xs e
      rw[aD (aN q a4)];exact q
     ·have q:=B.frzs b o u e
      rw[aD (aN q a4)];exact q
     ·obtain ⟨more,q⟩:=B.tbls b ps e
      exact ⟨more,by rw[aD (aN q a4)];exact q⟩
     ·obtain ⟨g0,g1,g2,g3,g4,g5⟩:=f2 b hb
      exact ⟨g3,g1,g4,g5⟩
    have cL:G.objs.size≠X.env.locals:=Ec (Ax I2.lt hC)
    have I6:Inv X (pins++[(G.objs.size,oC)]) σ (upd H3 s2.heap.objs.size (.lst ys)) s4:=I5.gD λp hp=>by
     rcases As.mp hp with q | q
     ·exact I5.pin p (AQ _ q)
     ·have ep:p=(G.objs.size,oC):=by simpa using q
      subst ep
      exact ⟨c4,by rw[aD (B4 aC)];exact I4.free,cL,I2.xO hC,λv z=>by rw[d4] at z;cases z⟩
    refine fin s4 H3 s2.heap.objs.size G.objs.size ys oC I6 ⟨m4,n4⟩ (A4 I2.sz hC) (λy c e z =>?_) (λp hp z =>?_) (q3 _ a4)
    ·obtain ⟨v,q⟩:=I2.cell y c e
     exact absurd (Ax q.lt hC) (by rw[z];exact A5 _)
    ·exact absurd (Ax (An (I2.pin p hp).1) hC) (by rw[z];exact A5 _)
   ·refine thn (T.item (blk X sc (aR X.env sc.names []) G.objs.size N' s2 H2 fp) rfl rfl rfl hcalm i _ s3 σ3 H3 _ I3 (stat fr3) st3 go) λr s4 ⟨u,hr,h4⟩ =>?_
    subst hr
    refine thn h4 λ_ s5 ⟨x,H5,I5,r5,y5,st5,fr5⟩ =>?_
    have I5':=I5.pinned (stat fr5) (T.obj _ _ st5)
    refine thn (hg _ _ _ _ _ _ s5 σ3 H5 x u _ I5' r5 (step x H5 y5)) λ_ s6 ⟨σ6,H6,I6,q6⟩ =>?_
    refine thn (hc _ _ _ _ _ _ s6 σ6 H6 _ I6 q6) λok s7 ⟨H7,I7,q7⟩ =>?_
    have back:∀{σ7:St} {H7:Hp} {s7:Ac},Inv (blk X sc (aR X.env sc.names []) G.objs.size N' s2 H2 fp) ([(s2.heap.objs.size,{ cls :=.type "list",data :=.seq its nn })]++gg fp s5.heap) σ7 H7 s7->tn (i+1) s7.heap/\∀b∈fp,H7 b=none:=λJ7 =>
     ⟨T.keep _ _ _ st5 λb hb o e=>(J7.pin (b,o) (AQ _ (AQ _ (cS hb e)))).1,λb hb=>by
      obtain ⟨o,e,d⟩:=T.obj _ _ st5 b hb
      exact (J7.pin (b,o) (AQ _ (AQ _ (cS hb e)))).2.1⟩
    cases ok with
    | false =>
     rw[if_neg (by decide)] at q7
     obtain ⟨m',lm,w7⟩:=q7
     show ∃m,m<n/\_
     exact ⟨m',lm,i+1,ys,its,nn,σ6,H7,I7.du,r3,(back I7).1,(back I7).2,w7⟩
    | true =>
     rw[if_pos rfl] at q7
     refine thn (he _ _ _ _ _ _ s7 σ6 H7 _ I7 q7) λz s8 ⟨y,H8,I8,r8,lz,m',lm,w8⟩ =>?_
     obtain ⟨e8,a8,_,_,_⟩:=I8.pin (s2.heap.objs.size,{ cls :=.type "list",data :=.seq its nn }) (by simp[blk])
     have sz:its.size<=Ao:=by
      have l:ys.length=its.size:=r3.length.trans Ai
      rw[<- l]
      exact DC lz
     refine wpAny_list_append_plain ⟨nn,e8⟩ (λh' pl' sb' =>?_) sz
     obtain ⟨n9,e9⟩:=pl'
     have I8p:Inv (blk X sc (aR X.env sc.names []) G.objs.size N' s2 H2 fp) (gg fp s5.heap) σ6 H8 s8:=I8.gD λp hp=>I8.pin p (AQ _ (AQ _ hp))
     have I9:=I8p.turned (it:=s2.heap.objs.size) (h':=h') (t':=s8.toks) (λb o ne e=>by rw[sb'.2 b ne];exact e) a8 aC (.inr (Ag _)) (λy c e=>accNotCell y c e) (λp hp z=>by
      have hp':p∈gg fp s5.heap:=by simpa [blk] using hp
      exact accFp (by rw[<- z];exact (kO hp').1))
     have b9:tn (i+1) h'/\∀b∈fp,H8 b=none :=
      ⟨T.keep _ _ _ st5 λb hb o e=>(I9.pin (b,o) (AQ _ (cS hb e))).1,(back I8).2⟩
     exact ⟨m',lm,i+1,ys++[y],its.push z,n9,σ6,H8,accPin I9 e9 a8,by rw[Cv];exact r3.append (.cons r8 .nil),b9.1,b9.2,w8⟩
  ·obtain ⟨n0,e0⟩:=accO
   exact ⟨0,[], #[],n0,_,H2,accPin IB e0 (I2.hok.fresh (Ag _)),.nil,T.keep _ _ _ st2 λb hb o e=>old b o e,λb hb=>(f2 b hb).1,w0⟩
 exact codeAny_compStart_list loop (T.self _ 0 _ _ _ (T.keep _ _ _ st2 λb hb o e=>old b o e) loop)
theorem cj {elt target iter:Expr}{ifs:List Expr}{sc:Scope}{pos:Pos}{wi:TI}{g:TG}{tc:TT}{te:TE}(N':List Str)(ix:List (Option Nat))
  (hcalm:X.calm=true) (hi:PI X target iter wi) (hk:nK X.env.scope.names X.N sc N' ix=true)
  (hg:∀cl C s H fp,PG (blk X sc cl C N' s H fp) target g) (hc:∀cl C s H fp,PF (blk X sc cl C N' s H fp) ifs tc) (he:∀cl C s H fp,PE (blk X sc cl C N' s H fp) elt te)
  (hs:∀x,foldedSetIterable iter X.env x=pure x:=by intro _;rfl):PE X (.ListComp elt [⟨target,iter,ifs,0⟩] sc pos) (t6 ix wi g tc te):=by
 intro pins s σ H Q I h
 rw[eval_ListComp]
 refine kU hcalm hi hk hg hc he hs (λs4 H3 acc C ys oC I4 ns hC hc hp q =>?_) I h
 obtain ⟨m,ns⟩:=ns
 refine ⟨m,ns,λh' sb=>⟨.ref acc,_,?_,rfl,q⟩⟩
 obtain ⟨_,n0,n1,n2,_⟩:=I4.pin (C,oC) (by simp)
 exact (I4.du).turned (it:=C) (h':=h') (t':=s4.toks) (λb o ne e=>by rw[sb.2 b ne];exact e) n0 n1 (.inr hC) hc hp
theorem gi {elt target iter:Expr}{ifs:List Expr}{sc:Scope}{pos pos' spos:Pos}{wi:TI}{g:TG}{tc:TT}{te:TE}{i:Nat}{x:Str}(N':List Str)(ix:List (Option Nat))
    (hcalm:X.calm=true) (hN:X.N.Nodup) (hx:X.N[i]? = some x) (hl:X.env.scope.names.lookup x=some .local)
    (hi:PI X target iter wi) (hk:nK X.env.scope.names X.N sc N' ix=true)
    (hg:∀cl C s H fp,PG (blk X sc cl C N' s H fp) target g) (hc:∀cl C s H fp,PF (blk X sc cl C N' s H fp) ifs tc) (he:∀cl C s H fp,PE (blk X sc cl C N' s H fp) elt te)
    (hsw:swapsWith (.ListComp elt [⟨target,iter,ifs,0⟩] sc pos) (some (.Name x pos')) spos.line X.env=pure true:=by rfl)
    (hs:∀x,foldedSetIterable iter X.env x=pure x:=by intro _;rfl):PS X (.Assign [.Name x pos'] (.ListComp elt [⟨target,iter,ifs,0⟩] sc pos) spos) (xT (t6 ix wi g tc te) (kM i)):=by
  intro pins s σ H D I h
  rw[exec_Assign_Name_used _ _ _ _ hsw]
  refine zY (Et (zY ?_))
  show AA _ X.A (do let _ ← comprehension (.ListComp elt [⟨target,iter,ifs,0⟩] sc pos) sc X.env _ (newList []) false (eval iter X.env) (some (assign (.Name x pos') X.env))) _ _ s
  refine zY (Cz (kU (Q:=λv H1=>D.nx (σ.set i (some v)) H1) (Q2:=λ_ s'=>SP X pins D .next s') hcalm hi hk hg hc he hs (λs4 H3 acc C ys oC I4 ns hC hc hp q =>?_) I h) (λ_ s' q=>Aa (Aa q)) λ_ _ e=>e)
  obtain ⟨m,ns⟩:=ns
  obtain ⟨e0,n0,n1,n2,_⟩:=I4.pin (C,oC) (by simp)
  show AA _ X.A (assign (.Name x pos') X.env (.ref acc)) _ _ s4
  refine thn ((aH (i:=i) hN hx (.inl hl) (.inr hl)) (pins++[(C,oC)]) s4 σ _ (.ref acc) (.ref acc) _ I4 rfl q) λ_ s5 ⟨σ5,H5,I5,q5⟩ =>?_
  obtain ⟨e5,k0,k1,k2,_⟩:=I5.pin (C,oC) (by simp)
  obtain ⟨o',es',ep',c',r'⟩:=ns
  have e':=e0.symm.trans c'
  cases e'
  refine ⟨m,⟨_,es',ep',e5,r'⟩,λh' sb=>⟨σ5,H5,?_,q5⟩⟩
  exact (I5.du).turned (it:=C) (h':=h') (t':=s5.toks) (λb o ne e=>by rw[sb.2 b ne];exact e) k0 k1 (.inr hC) hc hp
end
open PySem PySem.Spec PyProof.Rows
section
variable  {X:Cx}
theorem eO:bM X (.builtin "isinstance") (λxs H Q=>∃x T t b,xs=[x,.ty T]/\ib X.K H x t/\PySem.W.kitOne X.K t (.type T)=some b/\Q (.bl b) H):=by
 intro pins s σ H xs us Q I r h
 obtain ⟨x,T,t,b,rfl,ty,e,q⟩:=h
 obtain ⟨u,w',rfl,ru,rw'⟩:=vals2 r
 cases (show w'=CI T from rw')
 exact rG I ru ty e λtk=>⟨.bl b,H,I.tok tk,rfl,q⟩
end
def t8 (k:Nat)(tc:TT)(te:TE)(τ:St)(Pv:Nat->List V->Hp->Prop)(i:Nat)(x:V)(ys:List V)(H:Hp):Prop :=
 ∀(R1:V->Hp->Prop) (R0:Hp->Prop),(∀y H4,Pv (i+1) (ys++[y]) H4->R1 y H4)->(∀H3,Pv (i+1) ys H3->R0 H3)->tc (τ.set k (some x)) H λb H3=>if b=true then te (τ.set k (some x)) H3 R1 else R0 H3
theorem cw {K:z8}{a:Addr}{xs:List V}{k:Nat}{tc:TT}{te:TE}{τ:St}{H:Hp}{Q:VK}(Pv:Nat->List V->Hp->Prop)(h0:Pv 0 [] H)(hz:xs.length<=Ao)
  (hl:∀i ys H,i<=xs.length->Pv i ys H->SqL K H a xs) (hs:∀i x ys H,xs[i]? = some x->ys.length<=i->Pv i ys H->t8 k tc te τ Pv i x ys H)
  (hd:∀ys H,ys.length<=xs.length->Pv xs.length ys H->∀l,H l=none->Q (.ref l) (upd H l (.lst ys))) :
  qr (Itl K a) (kM k) tc te τ Q H:=by
 refine ⟨λi m σ ys H=>m=xs.length-i/\i<=xs.length/\(∀x,σ.set k (some x)=τ.set k (some x))/\ys.length<=i/\Pv i ys H,⟨xs.length,by simp,A7 _,λ_=>rfl,Ag _,h0⟩,?_⟩
 rintro i m σ ys H ⟨rfl,hi,hτ,hy,p⟩
 have q:=hl i ys H hi p
 by_cases hlt:i<xs.length
 ·refine .inr ⟨⟨xs,xs[i],q,by simp[hlt]⟩,λx H' y =>?_⟩
  obtain ⟨e,y⟩:=y
  subst e
  show tc (σ.set k (some x)) _ _
  rw[hτ x]
  have hσ:∀z,(τ.set k (some x)).set k (some z)=τ.set k (some z):=λz=>by rw[Hd]
  refine hs i x ys _ (y xs q) hy p _ _ (λy4 H4 p4=>⟨by lia,xs.length-(i+1),by lia,rfl,hlt,hσ,by rw[Ae,BH];lia,p4⟩) λH3 p3=>⟨xs.length-(i+1),by lia,rfl,hlt,hσ,by lia,p3⟩
 ·have e:i=xs.length:=by lia
  subst e
  exact .inl ⟨⟨xs,q,Ag _⟩,by lia,hd ys H hy p⟩
theorem fC {K:z8}{a:Addr}{xs:List V}{k:Nat}{tc:TT}{te:TE}{τ:St}{H:Hp}{Q:VK}(Pv:Nat->List V->Hp->Prop)(h0:Pv 0 [] H)(hz:xs.length<=Ao)
  (hl:∀i ys H,i<=xs.length->Pv i ys H->SqT K H a xs) (hs:∀i x ys H,xs[i]? = some x->ys.length<=i->Pv i ys H->t8 k tc te τ Pv i x ys H)
  (hd:∀ys H,ys.length<=xs.length->Pv xs.length ys H->∀l,H l=none->Q (.ref l) (upd H l (.lst ys))) :
  qr (Itt K a) (kM k) tc te τ Q H:=by
 refine ⟨λi m σ ys H=>m=xs.length-i/\i<=xs.length/\(∀x,σ.set k (some x)=τ.set k (some x))/\ys.length<=i/\Pv i ys H,⟨xs.length,by simp,A7 _,λ_=>rfl,Ag _,h0⟩,?_⟩
 rintro i m σ ys H ⟨rfl,hi,hτ,hy,p⟩
 have q:=hl i ys H hi p
 by_cases hlt:i<xs.length
 ·refine .inr ⟨⟨xs,xs[i],q,by simp[hlt]⟩,λx H' y =>?_⟩
  obtain ⟨e,y⟩:=y
  subst e
  show tc (σ.set k (some x)) _ _
  rw[hτ x]
  have hσ:∀z,(τ.set k (some x)).set k (some z)=τ.set k (some z):=λz=>by rw[Hd]
  refine hs i x ys _ (y xs q) hy p _ _ (λy4 H4 p4=>⟨by lia,xs.length-(i+1),by lia,rfl,hlt,hσ,by rw[Ae,BH];lia,p4⟩) λH3 p3=>⟨xs.length-(i+1),by lia,rfl,hlt,hσ,by lia,p3⟩
 ·have e:i=xs.length:=by lia
  subst e
  exact .inl ⟨⟨xs,q,Ag _⟩,by lia,hd ys H hy p⟩
theorem cF {lo:Int}{n:Nat}{k:Nat}{tc:TT}{te:TE}{τ:St}{H:Hp}{Q:VK}(Pv:Nat->List V->Hp->Prop)(h0:Pv 0 [] H)(hz:n<=Ao)
  (hs:∀i ys H,i<n->ys.length<=i->Pv i ys H->t8 k tc te τ Pv i (.int (lo+i)) ys H)
  (hd:∀ys H,ys.length<=n->Pv n ys H->∀l,H l=none->Q (.ref l) (upd H l (.lst ys))) :
  qr (Itr lo n) (kM k) tc te τ Q H:=by
 refine ⟨λi m σ ys H=>m=n-i/\i<=n/\(∀x,σ.set k (some x)=τ.set k (some x))/\ys.length<=i/\Pv i ys H,⟨n,by simp,A7 _,λ_=>rfl,Ag _,h0⟩,?_⟩
 rintro i m σ ys H ⟨rfl,hi,hτ,hy,p⟩
 by_cases hlt:i<n
 ·refine .inr ⟨hlt,λx H' y =>?_⟩
  obtain ⟨e,y⟩:=y
  subst e y
  show tc (σ.set k (some (.int (lo+i)))) _ _
  rw[hτ]
  have hσ:∀z,(τ.set k (some (.int (lo+i)))).set k (some z)=τ.set k (some z):=λz=>by rw[Hd]
  refine hs i ys _ hlt hy p _ _ (λy4 H4 p4=>⟨by lia,n-(i+1),by lia,rfl,hlt,hσ,by rw[Ae,BH];lia,p4⟩) λH3 p3=>⟨n-(i+1),by lia,rfl,hlt,hσ,by lia,p3⟩
 ·have e:i=n:=by lia
  subst e
  exact .inl ⟨Ag _,by lia,hd ys H hy p⟩
structure Cal (P:Au)(w:AV)(K:z8)(mg:Str->Option z9)(base:Heap)(k:Nat)(x:Str)(ps:List Str)(sp:Sp):Prop where
 ex:∃f fd,a7 P w K mg base CX0 k f fd ps sp/\mg x=some (.ref f)/\PySem.W.keepIn K (.ref f)=true/\Binds K fd ps []
theorem ay {X:Cx}{j k:Nat}{x:Str}{ps:List Str}{sp:Sp}{e:Expr}{es:List Expr}{t:TA}{p pos:Pos}(C:Cal X.prog X.w X.K X.mg X.base k x ps sp)(hr:cg j X.A)(hj:k<=j)(hg:Gl X x)(ha:PA X (e :: es) t)
  (hdb:(x == ("__debug__" : Str))=false:=by decide) (he:Bt (e :: es) X.env=(false,eval e X.env) :: Bt es X.env:=by rfl) (hpl:(Ez pos (Bt es X.env)).any (·.1)=false:=by rfl) :
  PE X (.Call (.Name x p) (e :: es) [] pos) (tO sp [] E0 t):=by
 obtain ⟨f,fd,F,m,kp,b⟩:=C.ex
 exact qm F (hr.mono hj) hg m kp b .nil xt ha hdb he hpl
theorem ai {H:Hp}{p:Addr}(h:H p=none)(o:HO):aA H (upd H p o):=λb u q=>by rw[aD (aN q h)];exact q
theorem small {n:Nat}(h:n<=1000):n<=Ao:=DC (fB h)
open PySem PySem.Spec PyProof.Rows
section
variable  {X:Cx}
theorem nL {its:List z9}{bs:List Bool}(h:Vals (bs.map V.bl) its){prog:Au}{w:AV}{A:Bd}:TruthOf prog w A (λi v=>its.toArray[i]? = some v) (λi=>bs.getD i false):=by
 intro i v s Q E hv q
 have l:=h.length
 rw[z4] at l
 have hi:i<its.length:=by
  rw[BI] at hv
  exact (Af.mp hv).1
 have e:(bs.map V.bl)[i]? = some (.bl (bs.getD i false)):=by
  rw[Aw,Aq,Ab (by lia)]
  rfl
 obtain ⟨u,e1,e2⟩:=h.get e
 rw[BI,e1] at hv
 have ev:u=v:=AI hv
 subst ev
 cases (show u=Value.bool _ from e2)
 exact B1 q
theorem all_range (bs:List Bool):((Bv bs.length).all λi=>bs.getD i false)=bs.all id:=by
 rw[DK,Dg,Dg]
 constructor
 ·intro h x hx
  obtain ⟨i,e⟩:=Bb.mp hx
  have hi:i<bs.length:=(Af.mp e).1
  have q:=h i (BA.mpr hi)
  rw[Aq,e] at q
  exact q
 ·intro h i hi
  have hi':=BA.mp hi
  rw[Aq,Ab hi']
  exact h _ (DG hi')
theorem uc (hc:X.calm=true):bM X (.builtin "all") (λxs H Q=>∃(p:Addr) (bs:List Bool),xs=[.ref p]/\SqL X.K H p (bs.map V.bl)/\Q (.bl (bs.all id)) H):=by
 intro pins s σ H xs us Q I r h
 obtain ⟨p,bs,rfl,hs,q⟩:=h
 obtain ⟨u,rfl,ru⟩:=vals1 r
 cases (show u=Ar p from ru)
 obtain ⟨its,rv,pl,hz⟩:=I.list hs
 have l:=rv.length
 rw[z4] at l
 have hpl:p<s.heap.objs.size:=by obtain ⟨o,_,e,_⟩:=pl;exact An e
 refine call_all_walk (Dz pl.isList ?_)
 have hd:X.A.in1.handled=none:=I.ok.hd hc
 refine ⟨s.heap.objs.size,_,_,_,_,_,_,rfl,G0 hd s.heap.objs.size p (AD hpl) its.toArray,⟨⟨_,Am _ rfl,rfl,rfl⟩,?_⟩,nL rv,λh' tk k =>?_⟩
 ·exact pl.isList.at λo e=>zZ _ e
 ·have e:((Bv its.toArray.size).all λi=>bs.getD i false)=bs.all id:=by rw[Ad, <- l,all_range]
  rw[e]
  refine ⟨.bl (bs.all id),H,I.kept (t':=tk) (λb o eb=>k b o ?_ (zZ _ eb)),rfl,q⟩
  intro hb
  have:b=s.heap.objs.size:=by simpa using hb
  exact absurd (An eb) (by rw[this];exact A5 _)
def gj (K:z8)(H:Hp):Nat->V->V->Prop
 | 0,x,y=>(∃i,x = .int i/\y = .int i)\/∃a,x = .ref a/\y = .ref a
 | n+1,x,y=>(∃i,x = .int i/\y = .int i)\/(∃a,x = .ref a/\y = .ref a)\/∃a b xs ys,x = .ref a/\y = .ref b/\((SqT K H a xs/\SqT K H b ys)\/(SqL K H a xs/\SqL K H b ys))/\Paired (gj K H n) xs ys
theorem ie {α β:Type}{F:α -> β -> Prop}:∀{l:List α} {m:List β} {i:Nat} {x:α} {y:β},Paired F l m->l[i]? = some x->m[i]? = some y->F x y
 | _,_,0,_,_,.cons h _,e1,e2=>by simp at e1 e2;subst e1 e2;exact h
 | _,_,i+1,_,_,.cons _ t,e1,e2=>ie (i:=i) t (by simpa using e1) (by simpa using e2)
 | _,_,_,_,_,.nil,e1,_=>by simp at e1
theorem all_true (n:Nat):((Bv n).all λ_=>true)=true:=by simp
theorem dU {K:z8}{H:Hp}{n:Nat}{s:Ac}{A:Bd}{xs ys:List V}{us vs:List z9}(p:Paired (gj K H n) xs ys)(r1:Vals xs us)(r2:Vals ys vs)
  (ih:∀x y u v,gj K H n x y->RelV x u->RelV y v->C0 A s u v true):∀j (h1:j<us.toArray.size) (h2:j<vs.toArray.size),C0 A s us.toArray[j] vs.toArray[j] true:=λj h1 h2=>by
 rw[Ad] at h1 h2
 have l1:=r1.length
 have l2:=r2.length
 have e1:xs[j]? = some xs[j]:=Ab (by omega)
 have e2:ys[j]? = some ys[j]:=Ab (by omega)
 obtain ⟨u,g1,q1⟩:=r1.get e1
 obtain ⟨v,g2,q2⟩:=r2.get e2
 have f1:us.toArray[j]=u:=by simp[Af] at g1;obtain ⟨_,g⟩:=g1;simpa using g
 have f2:vs.toArray[j]=v:=by simp[Af] at g2;obtain ⟨_,g⟩:=g2;simpa using g
 rw[f1,f2]
 exact ih _ _ u v (ie p e1 e2) q1 q2
theorem kX {pins:List (Addr×Obj)}{σ:St}{H:Hp}{s:Ac}(I:Inv X pins σ H s):∀(n:Nat) (A:Bd) (x y:V) (u v:z9),A.units+n<cLine->gj X.K H n x y->RelV x u->RelV y v->C0 A s u v true
 | 0,A,x,y,u,v,_,h,ru,rv=>by
  rcases h with ⟨i,rfl,rfl⟩ | ⟨a,rfl,rfl⟩
  ·obtain ⟨t,rfl⟩:=(show ∃t,u=Cb i t from ru)
   obtain ⟨t',rfl⟩:=(show ∃t,v=Cb i t from rv)
   have:=Dj (A:=A) (s:=s) i t i t'
   rw[beq_self_eq_true] at this
   exact this
  ·cases (show u=Ar a from ru)
   cases (show v=Ar a from rv)
   exact DL _
 | n+1,A,x,y,u,v,hA,h,ru,rv=>by
  rcases h with ⟨i,rfl,rfl⟩ | ⟨a,rfl,rfl⟩ | ⟨a,b,xs,ys,rfl,rfl,hs,p⟩
  ·obtain ⟨t,rfl⟩:=(show ∃t,u=Cb i t from ru)
   obtain ⟨t',rfl⟩:=(show ∃t,v=Cb i t from rv)
   have:=Dj (A:=A) (s:=s) i t i t'
   rw[beq_self_eq_true] at this
   exact this
  ·cases (show u=Ar a from ru)
   cases (show v=Ar a from rv)
   exact DL _
  ·cases (show u=Ar a from ru)
   cases (show v=Ar b from rv)
   by_cases hab:a=b
   ·subst hab;exact DL _
   refine GC hab ?_
   have ih:∀x y u v,gj X.K H n x y->RelV x u->RelV y v->C0 A.in1 s u v true:=λx y u v h1 h2 h3=>kX I n A.in1 x y u v (by show A.units+1+n<cLine;lia) h1 h2 h3
   have pl:=CO p
   rcases hs with ⟨h1,h2⟩ | ⟨h1,h2⟩
   ·obtain ⟨its,r1,p1,_⟩:=I.tuple h1
    obtain ⟨its2,r2,p2,_⟩:=I.tuple h2
    have q:=Fl (e:=λ_=>true) (show s.heap.IsTuple a its.toArray from p1) (show s.heap.IsTuple b its2.toArray from p2) (by lia) (dU p r1 r2 ih)
    have ez:its.toArray.size=its2.toArray.size:=by rw[Ad,Ad, <- r1.length, <- r2.length,pl]
    rw[all_true,ez,beq_self_eq_true] at q
    exact q
   ·obtain ⟨its,r1,p1,_⟩:=I.list h1
    obtain ⟨its2,r2,p2,_⟩:=I.list h2
    have q:=EG (e:=λ_=>true) p1.isList p2.isList (by rw[Ad,Ad, <- r1.length, <- r2.length,pl]) (by lia) (dU p r1 r2 ih)
    rw[all_true] at q
    exact q
end
open PySem PySem.Spec PyProof.Rows
open PySem PySem.Spec PyProof.Rows
section
variable  {X:Cx}{K:z8}
theorem nM (h:X.K=K:=by rfl):IxR X (zr K):=by subst h;exact bq
theorem da (h:X.K=K:=by rfl):IxR X (zu K):=by subst h;exact au
theorem jI (h:X.K=K:=by rfl):OpR X (BQ .In) (rIn K false):=by subst h;exact fA
theorem ig (h:X.K=K:=by rfl):OpR X (BQ .NotIn) (rIn K true):=by subst h;exact mq
end
open PySem PySem.Spec PyProof.Rows
section
variable  {X:Cx}
end
def zy (J:It)(g:TG)(tb:TS)(D:Ends)(σ:St)(H:Hp):Prop:=∃W:Nat->Nat->St->Hp->Prop,(∃m,W 0 m σ H)/\∀i m σ H,W i m σ H →
 (J.stop i H/\D.nx σ H)\/(J.go i H/\∃N:St->Hp->Prop,(∀σ' H',N σ' H'->∃m',m'<m/\W (i+1) m' σ' H')/\∀x H',J.yld i H x H'->g x σ H' λσ2 H2=>tb { D with nx:=N,ct:=N,bk:=D.nx } σ2 H2)
end L2
namespace Srt
open PySem PyProof.Rows
def gal:Bool->Az->Array Az->Nat->Nat->Nat->StateT AS Sem (Option Nat):=sortPriv% PySem.Builtin.gallop
def mLo:Array Az->Array Az->StateT AS Sem (Array Az):=sortPriv% PySem.Builtin.mergeLo
def mHi:Array Az->Array Az->StateT AS Sem (Array Az):=sortPriv% PySem.Builtin.mergeHi
def mAt:Nat->StateT AS Sem Bool:=sortPriv% PySem.Builtin.mergeAt
def xu:StateT AS Sem Unit:=sortPriv% PySem.Builtin.sortRuns
def yg:Nat->Nat->StateT AS Sem (Option Nat):=sortPriv% PySem.Builtin.countRun
def ud:Nat->Nat->Nat->StateT AS Sem Bool:=sortPriv% PySem.Builtin.binarySort
theorem yh (lf:Bool)(ky:Az)(ar:Array Az)(bs n ht:Nat):gal lf ky ar bs n ht=(do
    let far (i:Nat):StateT AS Sem (Option Bool):=do
      let z ← elem' ar (bs+i)
      if lf then lt' z ky else return (← lt' ky z).map (!·)
    let mut la:=0;let mut of:=1
    let mut lo:=0;let mut hi:=0
    let some rt ← far ht | return none
    if rt then
      let mx:=n-ht
      for _ in [0:n] do
        if of≥mx then break
        let some mo ← far (ht+of)
          | return none
        if !mo then break
        la:=of;of:=2*of+1
      lo:=ht+la+1;hi:=ht+min of mx
    else
      let mx:=ht+1
      for _ in [0:n] do
        if of≥mx then break
        let some fd ← far (ht-of)
          | return none
        if fd then break
        la:=of;of:=2*of+1
      lo:=ht+1-min of mx;hi:=ht-la
    for _ in [0:n] do
      if lo≥hi then break
      let md:=lo+(hi-lo)/2
      let some mo ← far md | return none
      if mo then lo:=md+1 else hi:=md
    return some hi):=rfl
section
variable  {prog:Au}{w:AV}{A:Bd}{E:z9->Ac->Prop}{s:Ac}
theorem ue {lf:Bool}{ky:Az}{ar:Array Az}{bs n ht:Nat}{st:AS}{Q:Option Nat->AS->Prop}(p:Nat->Bool)
    (hf:∀i,i<n->∀(Q:Option Bool->AS->Prop),Q (some (p i)) st->wpS (AM prog w) A E s (do let z ← elem' ar (bs+i);if lf then lt' z ky else return (← lt' ky z).map (!·)) Q st)
    (hp:∀i j,i<=j->j<n->p j=true->p i=true) (hh:ht<n)
    (h:∀k,k<=n->(∀i,i<k->p i=true)->(∀i,k<=i->i<n->p i=false)->Q (some k) st):wpS (AM prog w) A E s (gal lf ky ar bs n ht) Q st:=by
  rw[yh]
  dsimp only
  refine Av (hf ht hh _ ?_)
  dsimp only
  cases hr:p ht with
  | true =>
    rw[if_pos rfl]
    refine Av (CB (BJ (I:=λx c st'=>st=st'/\∃la of,c=(none,la,of)/\la<of/\x+1<=of/\ht+la<n/\p (ht+la)=true)
      (Q:=λc st'=>st=st'/\∃la of,c=(none,la,of)/\la<of/\ht+la<n/\p (ht+la)=true/\(n-ht<=of\/(ht+of<n/\p (ht+of)=false))) ?step ?fin ⟨rfl,0,1,rfl,by lia,by lia,by lia,by simpa using hr⟩) ?post)
    case fin =>
      rintro c st' ⟨rfl,la,of,rfl,b1,b2,b3,b4⟩
      exact ⟨rfl,la,of,rfl,b1,b3,b4,.inl (by lia)⟩
    case step =>
      rintro x c st' _ hx ⟨rfl,la,of,rfl,b1,b2,b3,b4⟩
      dsimp only
      by_cases hge:of≥n-ht
      · rw[if_pos hge]
        exact AB ⟨rfl,la,of,rfl,b1,b3,b4,.inl hge⟩
      · rw[if_neg hge]
        refine Av (hf _ (by lia) _ ?_)
        dsimp only
        cases hm:p (ht+of) with
        | true =>
          simp only[BW,Ay,if_false]
          exact AB ⟨rfl,of,2*of+1,rfl,by lia,by lia,by lia,hm⟩
        | false =>
          simp only[Gi,if_true]
          exact AB ⟨rfl,la,of,rfl,b1,b3,b4,.inr ⟨by lia,hm⟩⟩
    case post =>
      rintro c st' ⟨rfl,la,of,rfl,b1,b3,b4,b5⟩
      have h1:(ht+la+1)<=(ht+min of (n-ht)):=by lia
      have h2:(ht+min of (n-ht))<=n:=by lia
      have h3:∀i,i<(ht+la+1)->p i=true:=λi hi=>hp i (ht+la) (by lia) b3 b4
      have h4:∀i,(ht+min of (n-ht))<=i->i<n->p i=false:=λi hi hn=>by
        rcases b5 with b5 | ⟨b5,b6⟩
        · lia
        · cases hpi:p i with
          | false=>rfl
          | true=>rw[hp (ht+of) i (by lia) hn hpi] at b6;cases b6
      dsimp only
      refine Av (CB (BJ (I:=λx c st'=>st=st'/\∃lo hi,c=(none,lo,hi)/\lo<=hi/\hi<=n/\hi-lo<=n-x/\(∀i,i<lo->p i=true)/\(∀i,hi<=i->i<n->p i=false))
        (Q:=λc st'=>st=st'/\∃k,c=(none,k,k)/\k<=n/\(∀i,i<k->p i=true)/\(∀i,k<=i->i<n->p i=false)) ?step ?fin ⟨rfl,(ht+la+1),(ht+min of (n-ht)),rfl,h1,h2,by lia,h3,h4⟩) ?post)
      case fin =>
        rintro c st' ⟨rfl,lo,hi,rfl,a1,a2,a3,a4,a5⟩
        have e:lo=hi:=by lia
        subst e
        exact ⟨rfl,lo,rfl,a2,a4,a5⟩
      case post =>
        rintro c st' ⟨rfl,k,rfl,a2,a4,a5⟩
        exact AB (h k a2 a4 a5)
      case step =>
        rintro x c st' _ hx ⟨rfl,lo,hi,rfl,a1,a2,a3,a4,a5⟩
        dsimp only
        by_cases hge:lo≥hi
        · rw[if_pos hge]
          have e:lo=hi:=by lia
          subst e
          exact AB ⟨rfl,lo,rfl,a2,a4,a5⟩
        · rw[if_neg hge]
          refine Av (hf _ (by lia) _ ?_)
          dsimp only
          cases hm:p (lo+(hi-lo)/2) with
          | true =>
            rw[if_pos rfl]
            exact AB ⟨rfl,_,_,rfl,by lia,a2,by lia,λi hi'=>hp i _ (by lia) (by lia) hm,a5⟩
          | false =>
            rw[if_neg (by simp)]
            refine AB ⟨rfl,_,_,rfl,by lia,by lia,by lia,a4,λi hi' hn =>?_⟩
            cases hpi:p i with
            | false=>rfl
            | true=>rw[hp _ i hi' hn hpi] at hm;cases hm
  | false =>
    rw[if_neg (by simp)]
    refine Av (CB (BJ (I:=λx c st'=>st=st'/\∃la of,c=(none,la,of)/\la<of/\x+1<=of/\la<=ht/\p (ht-la)=false)
      (Q:=λc st'=>st=st'/\∃la of,c=(none,la,of)/\la<of/\la<=ht/\p (ht-la)=false/\(ht+1<=of\/(of<=ht/\p (ht-of)=true))) ?step ?fin ⟨rfl,0,1,rfl,by lia,by lia,by lia,by simpa using hr⟩) ?post)
    case fin =>
      rintro c st' ⟨rfl,la,of,rfl,b1,b2,b3,b4⟩
      exact ⟨rfl,la,of,rfl,b1,b3,b4,.inl (by lia)⟩
    case step =>
      rintro x c st' _ hx ⟨rfl,la,of,rfl,b1,b2,b3,b4⟩
      dsimp only
      by_cases hge:of≥ht+1
      · rw[if_pos hge]
        exact AB ⟨rfl,la,of,rfl,b1,b3,b4,.inl hge⟩
      · rw[if_neg hge]
        refine Av (hf _ (by lia) _ ?_)
        dsimp only
        cases hm:p (ht-of) with
        | true =>
          rw[if_pos rfl]
          exact AB ⟨rfl,la,of,rfl,b1,b3,b4,.inr ⟨by lia,hm⟩⟩
        | false =>
          rw[if_neg (by simp)]
          exact AB ⟨rfl,of,2*of+1,rfl,by lia,by lia,by lia,hm⟩
    case post =>
      rintro c st' ⟨rfl,la,of,rfl,b1,b3,b4,b5⟩
      have h1:(ht+1-min of (ht+1))<=(ht-la):=by lia
      have h2:(ht-la)<=n:=by lia
      have h3:∀i,i<(ht+1-min of (ht+1))->p i=true:=λi hi=>by
        rcases b5 with b5 | ⟨b5,b6⟩
        · lia
        · exact hp i (ht-of) (by lia) (by lia) b6
      have h4:∀i,(ht-la)<=i->i<n->p i=false:=λi hi hn=>by
        cases hpi:p i with
        | false=>rfl
        | true=>rw[hp (ht-la) i hi hn hpi] at b4;cases b4
      dsimp only
      refine Av (CB (BJ (I:=λx c st'=>st=st'/\∃lo hi,c=(none,lo,hi)/\lo<=hi/\hi<=n/\hi-lo<=n-x/\(∀i,i<lo->p i=true)/\(∀i,hi<=i->i<n->p i=false))
        (Q:=λc st'=>st=st'/\∃k,c=(none,k,k)/\k<=n/\(∀i,i<k->p i=true)/\(∀i,k<=i->i<n->p i=false)) ?step ?fin ⟨rfl,(ht+1-min of (ht+1)),(ht-la),rfl,h1,h2,by lia,h3,h4⟩) ?post)
      case fin =>
        rintro c st' ⟨rfl,lo,hi,rfl,a1,a2,a3,a4,a5⟩
        have e:lo=hi:=by lia
        subst e
        exact ⟨rfl,lo,rfl,a2,a4,a5⟩
      case post =>
        rintro c st' ⟨rfl,k,rfl,a2,a4,a5⟩
        exact AB (h k a2 a4 a5)
      case step =>
        rintro x c st' _ hx ⟨rfl,lo,hi,rfl,a1,a2,a3,a4,a5⟩
        dsimp only
        by_cases hge:lo≥hi
        · rw[if_pos hge]
          have e:lo=hi:=by lia
          subst e
          exact AB ⟨rfl,lo,rfl,a2,a4,a5⟩
        · rw[if_neg hge]
          refine Av (hf _ (by lia) _ ?_)
          dsimp only
          cases hm:p (lo+(hi-lo)/2) with
          | true =>
            rw[if_pos rfl]
            exact AB ⟨rfl,_,_,rfl,by lia,a2,by lia,λi hi'=>hp i _ (by lia) (by lia) hm,a5⟩
          | false =>
            rw[if_neg (by simp)]
            refine AB ⟨rfl,_,_,rfl,by lia,by lia,by lia,a4,λi hi' hn =>?_⟩
            cases hpi:p i with
            | false=>rfl
            | true=>rw[hp _ i hi' hn hpi] at hm;cases hm
end
open PySem PyProof.Rows
structure Cmp (prog:Au)(w:AV)(A:Bd)(s:Ac)(O:E1)(key:Az->O.α)(U:Az->Prop)(κ:SortKind):Prop where
 lt:∀(E:z9->Ac->Prop) (st:AS) (x y:Az) (Q:Option Bool->AS->Prop),kindOf st=κ -> U x->U y->Q (some (O.blt (key x) (key y))) st->wpS (AM prog w) A E s (lt' x y) Q st
section
variable  {prog:Au}{w:AV}{A:Bd}{E:z9->Ac->Prop}{s:Ac}{O:E1}{key:Az->O.α}{U:Az->Prop}{κ:SortKind}
theorem aT {ar:Array Az}{i:Nat}{z:Az}{st:AS}{Q:Az->AS->Prop}(h:ar[i]? = some z)(hq:Q z st):wpS (AM prog w) A E s (elem' ar i) Q st:=by
 rw[elem'_eq,h]
 exact AB hq
theorem yi (C:Cmp prog w A s O key U κ){ky:Az}{ar:Array Az}{bs n ht:Nat}{st:AS}{Q:Option Nat->AS->Prop}(g:Nat->Az)(hk:kindOf st=κ)(uk:U ky)
  (hg:∀i,i<n->ar[bs+i]? = some (g i)) (hu:∀i,i<n->U (g i)) (hs:∀i j,i<=j->j<n->O.kle (key (g i)) (key (g j))) (hh:ht<n)
  (h:∀k,k<=n->(∀i,i<k->O.kle (key (g i)) (key ky))->(∀i,k<=i->i<n->O.klt (key ky) (key (g i)))->Q (some k) st):wpS (AM prog w) A E s (gal false ky ar bs n ht) Q st:=by
 refine ue (λi => !O.blt (key ky) (key (g i))) (λi hi R hr =>?_) (λi j hij hj hp =>?_) hh (λk hk' h1 h2=>h k hk' (λi hi =>?_) λi hi hn =>?_)
 ·refine Av (aT (hg i hi) ?_)
  rw[if_neg (by simp)]
  exact Av (C.lt _ st ky (g i) _ hk uk (hu i hi) (AB hr))
 ·have a1:O.blt (key ky) (key (g j))=false:=by simpa using hp
  have a2:O.kle (key (g i)) (key ky):=A6 (hs i j hij hj) a1
  have a3:O.blt (key ky) (key (g i))=false:=a2
  simp[a3]
 ·have a1:=h1 i hi
  exact (by simpa using a1:O.blt (key ky) (key (g i))=false)
 ·have a1:=h2 i hi hn
  exact (by simpa using a1:O.blt (key ky) (key (g i))=true)
theorem yj (C:Cmp prog w A s O key U κ){ky:Az}{ar:Array Az}{bs n ht:Nat}{st:AS}{Q:Option Nat->AS->Prop}(g:Nat->Az)(hk:kindOf st=κ)(uk:U ky)
  (hg:∀i,i<n->ar[bs+i]? = some (g i)) (hu:∀i,i<n->U (g i)) (hs:∀i j,i<=j->j<n->O.kle (key (g i)) (key (g j))) (hh:ht<n)
  (h:∀k,k<=n->(∀i,i<k->O.klt (key (g i)) (key ky))->(∀i,k<=i->i<n->O.kle (key ky) (key (g i)))->Q (some k) st):wpS (AM prog w) A E s (gal true ky ar bs n ht) Q st:=by
 refine ue (λi=>O.blt (key (g i)) (key ky)) (λi hi R hr =>?_) (λi j hij hj hp =>?_) hh (λk hk' h1 h2=>h k hk' (λi hi=>h1 i hi) λi hi hn=>h2 i hi hn)
 ·refine Av (aT (hg i hi) ?_)
  rw[if_pos rfl]
  exact C.lt _ st (g i) ky _ hk (hu i hi) uk hr
 ·exact KeyOrd.klt_of_kle_of_klt (hs i j hij hj) hp
end
open PySem PyProof.Rows
section
variable  {O:E1}(key:Az->O.α)
def Le (p q:Az):Prop:=O.kle (key p) (key q)
structure MW (a b o:Array Az)(x y:Nat):Prop where
 hx:x<=a.size
 hy:y<=b.size
 perm:(o.toList++(a.toList.drop x++b.toList.drop y)).Perm (a.toList++b.toList)
 sorted:o.toList.Pairwise (Le key)
 below:∀p∈o.toList,∀z∈a.toList.drop x++b.toList.drop y,Le key p z
def dj (a b r:Array Az):Prop:=r.toList.Perm (a.toList++b.toList)/\r.toList.Pairwise (Le key)
variable  {key}
theorem MW.fin {a b o:Array Az}{x y:Nat}(m:MW key a b o x y){t:List Az}{r:Array Az}(hr:r.toList=o.toList++t)(ht:t.Perm (a.toList.drop x++b.toList.drop y))(hs:t.Pairwise (Le key)):dj key a b r:=by
 unfold dj
 rw[hr]
 exact ⟨(Cf _ ht).trans m.perm,BO.mpr ⟨m.sorted,hs,λp hp q hq=>m.below p hp q (ht.mem_iff.mp hq)⟩⟩
theorem MW.take {a b o:Array Az}{x y x' y':Nat}(m:MW key a b o x y){t:List Az}{r:Array Az}(hr:r.toList=o.toList++t)(hx:x'<=a.size)(hy:y'<=b.size)
  (ht:(t++(a.toList.drop x'++b.toList.drop y')).Perm (a.toList.drop x++b.toList.drop y)) (hs:t.Pairwise (Le key)) (hb:∀p∈t,∀z∈a.toList.drop x'++b.toList.drop y',Le key p z):MW key a b r x' y':=by
 have sub:∀z,z∈t\/z∈a.toList.drop x'++b.toList.drop y'->z∈a.toList.drop x++b.toList.drop y:=λz hz=>ht.mem_iff.mp (As.mpr hz)
 refine ⟨hx,hy,?_,?_,?_⟩
 ·rw[hr,A1]
  exact (Cf _ ht).trans m.perm
 ·rw[hr]
  exact BO.mpr ⟨m.sorted,hs,λp hp q hq=>m.below p hp q (sub q (.inl hq))⟩
 ·rw[hr]
  intro p hp z hz
  rcases As.mp hp with h | h
  ·exact m.below p h z (sub z (.inr hz))
  ·exact hb p h z hz
theorem drop_cons {α:Type}{l:List α}{i:Nat}{z:α}(h:l[i]? = some z):l.drop i=z :: l.drop (i+1):=by
 obtain ⟨hi,e⟩:=Af.mp h
 rw[List.drop_eq_getElem_cons hi,e]
theorem drop_take {α:Type}(l:List α)(i k:Nat):l.drop i=(l.drop i).take k++l.drop (i+k):=by
 rw[<- HG,CD]
theorem aG {a:Array Az}{i:Nat}{z:Az}(h:a[i]? = some z):a.toList[i]? = some z:=by rw[Ap];exact h
theorem MW.iP {a b o:Array Az}{x y:Nat}{z:Az}(m:MW key a b o x y)(h:a[x]? = some z)(ha:a.toList.Pairwise (Le key))(hb:∀t∈b.toList.drop y,Le key z t):MW key a b (o.push z) (x+1) y:=by
 have e:=drop_cons (aG h)
 have hx:x<a.size:=(B3.mp h).1
 have pa:(z :: a.toList.drop (x+1)).Pairwise (Le key):=by rw[<- e];exact ha.sublist (BE _ _)
 refine m.take (t:=[z]) (by rw[Cv]) hx m.hy (by rw[e];exact DV _) (CP _ _) λp hp t ht =>?_
 have ep:p=z:=by simpa using hp
 subst ep
 rcases As.mp ht with q | q
 ·exact (GD.mp pa).1 t q
 ·exact hb t q
theorem MW.kY {a b o:Array Az}{x y:Nat}{z:Az}(m:MW key a b o x y)(h:b[y]? = some z)(hb:b.toList.Pairwise (Le key))(ha:∀t∈a.toList.drop x,Le key z t):MW key a b (o.push z) x (y+1):=by
 have e:=drop_cons (aG h)
 have hy:y<b.size:=(B3.mp h).1
 have pb:(z :: b.toList.drop (y+1)).Pairwise (Le key):=by rw[<- e];exact hb.sublist (BE _ _)
 refine m.take (t:=[z]) (by rw[Cv]) m.hx hy (by rw[e,List.singleton_append];exact Hk.symm) (CP _ _) λp hp t ht =>?_
 have ep:p=z:=by simpa using hp
 subst ep
 rcases As.mp ht with q | q
 ·exact ha t q
 ·exact (GD.mp pb).1 t q
theorem ext_toList (a:Array Az)(x k:Nat):(a.extract x (x+k)).toList=(a.toList.drop x).take k:=by
 rw[CM,B8,DD]
theorem fD (a:Array Az)(x:Nat):(a.extract x a.size).toList=a.toList.drop x:=by
 rw[CM,B8]
 exact AY (by rw[Bk,Ai];exact Ag _)
theorem aI {l:List Az}(h:l.Pairwise (Le key)){i j:Nat}{p q:Az}(hi:l[i]? = some p)(hj:l[j]? = some q)(hij:i<=j):Le key p q:=by
 by_cases e:i=j
 ·subst e
  rw[hi] at hj
  cases hj
  exact Cm _
 ·obtain ⟨h1,e1⟩:=Af.mp hi
  obtain ⟨h2,e2⟩:=Af.mp hj
  have:=Dp.mp h i j h1 h2 (by lia)
  rw[e1,e2] at this
  exact this
theorem aS {l:List Az}{i:Nat}{t:Az}(h:t∈l.drop i):∃j,i<=j/\l[j]? = some t:=by
 obtain ⟨n,e⟩:=Bb.mp h
 rw[DI] at e
 exact ⟨i+n,by lia,e⟩
theorem iQ {l:List Az}{i k:Nat}{t:Az}(h:t∈(l.drop i).take k):∃j,j<k/\l[i+j]? = some t:=by
 obtain ⟨n,e⟩:=Bb.mp h
 rw[Cn] at e
 split at e
 ·rw[DI] at e
  exact ⟨n,by omega,e⟩
 ·cases e
theorem MW.uf {a b o:Array Az}{x y k:Nat}(m:MW key a b o x y)(hk:x+k<=a.size)(ha:a.toList.Pairwise (Le key))(hb:∀j p,j<k->a.toList[x+j]? = some p->∀t∈b.toList.drop y,Le key p t):MW key a b (o++a.extract x (x+k)) (x+k) y:=by
 refine m.take (t:=(a.toList.drop x).take k) (by rw[A8,ext_toList]) hk m.hy ?_ ?_ λp hp t ht =>?_
 ·rw[<- A1, <- drop_take]
 ·exact ha.sublist ((BL _ _).trans (BE _ _))
 ·obtain ⟨j,hj,e⟩:=iQ hp
  rcases As.mp ht with q | q
  ·obtain ⟨i,hi,e2⟩:=aS q
   exact aI ha e e2 (by lia)
  ·exact hb j p hj e t q
theorem MW.ug {a b o:Array Az}{x y k:Nat}(m:MW key a b o x y)(hk:y+k<=b.size)(hb:b.toList.Pairwise (Le key))(ha:∀j p,j<k->b.toList[y+j]? = some p->∀t∈a.toList.drop x,Le key p t):MW key a b (o++b.extract y (y+k)) x (y+k):=by
 refine m.take (t:=(b.toList.drop y).take k) (by rw[A8,ext_toList]) m.hx hk ?_ ?_ λp hp t ht =>?_
 ·rw[drop_take b.toList y k]
  have e:((b.toList.drop y).take k++b.toList.drop (y+k)).take k=(b.toList.drop y).take k:=by rw[<- drop_take]
  rw[e]
  refine (List.perm_append_comm_assoc _ _ _)
 ·exact hb.sublist ((BL _ _).trans (BE _ _))
 ·obtain ⟨j,hj,e⟩:=iQ hp
  rcases As.mp ht with q | q
  ·exact ha j p hj e t q
  ·obtain ⟨i,hi,e2⟩:=aS q
   exact aI hb e e2 (by lia)
theorem MW.rM {a b o:Array Az}{x y:Nat}(m:MW key a b o x y)(ha:a.toList.Pairwise (Le key))(hy:y=b.size):dj key a b (o++a.extract x a.size++b.extract y b.size):=by
 subst hy
 have e:b.toList.drop b.size=[]:=FK (by rw[Ai];exact Ag _)
 refine m.fin (t:=a.toList.drop x) (by rw[A8,A8,fD,fD,e,AU]) (by rw[e,AU]) (ha.sublist (BE _ _))
theorem MW.rN {a b o:Array Az}{x y:Nat}(m:MW key a b o x y)(hb:b.toList.Pairwise (Le key))(hx:x=a.size):dj key a b (o++a.extract x a.size++b.extract y b.size):=by
 subst hx
 have e:a.toList.drop a.size=[]:=FK (by rw[Ai];exact Ag _)
 refine m.fin (t:=b.toList.drop y) (by rw[A8,A8,fD,fD,e,AU]) (by rw[e,Eo]) (hb.sublist (BE _ _))
theorem MW.last {a b o:Array Az}{x y:Nat}(m:MW key a b o x y)(ha:a.toList.Pairwise (Le key))(hb:b.toList.Pairwise (Le key))(hx:x+1=a.size)(hl:∀p q,p∈b.toList->a[a.size-1]? = some q->Le key p q):dj key a b (o++b.extract y b.size++a.extract x a.size):=by
 refine m.fin (t:=b.toList.drop y++a.toList.drop x) (by rw[A8,A8,fD,fD,A1]) DM ?_
 refine BO.mpr ⟨hb.sublist (BE _ _),ha.sublist (BE _ _),λp hp q hq=>hl p q (B5 hp) ?_⟩
 obtain ⟨i,hi,e⟩:=aS hq
 rw[Ap] at e
 have hi2:i<a.size:=(B3.mp e).1
 rw[show a.size-1=i by lia]
 exact e
theorem MW.size {a b o:Array Az}{x y:Nat}(m:MW key a b o x y):o.size+(a.size-x)+(b.size-y)=a.size+b.size:=by
 have e:=m.perm.length_eq
 simp only[Ae,Bk,Ai] at e
 lia
end
structure Sm (st st':AS):Prop where
 k:kindOf st'=kindOf st
 a:AH st'=AH st
 p:AO st'=AO st
 f:failedOf st'=failedOf st
theorem Sm.refl (st:AS):Sm st st:=⟨rfl,rfl,rfl,rfl⟩
theorem Sm.mg {st st':AS}(h:Sm st st')(n:Nat):Sm st (SortSt.mk' (kindOf st') (AH st') (AO st') n (failedOf st')):=⟨h.k,h.a,h.p,h.f⟩
open PySem PyProof.Rows
section
variable  {prog:Au}{w:AV}{A:Bd}{E:z9->Ac->Prop}{s:Ac}{O:E1}{key:Az->O.α}{U:Az->Prop}{κ:SortKind}
theorem aV {a:Array Az}{i:Nat}(h:i<a.size):∃z,a[i]? = some z:=⟨a[i],by simp[h]⟩
theorem bF {a:Array Az}{i:Nat}{z:Az}(h:a[i]? = some z):z∈a.toList:=Bb.mpr ⟨i,by rw[Ap];exact h⟩
theorem ltq {x n:Nat}(h:x<=n)(c:¬ (x == n)=true):x<n:=GF h λz=>c (beq_iff_eq.mpr z)
abbrev LoC:=Option (Array Az)×Array Az×Nat×Nat×Nat×Nat×Nat
def vT (a b o:Array Az)(x y mg ac bc:Nat):StateT AS Sem (ForInStep LoC):=do
  let z ← elem' a x
  if (x+1+1 == a.size)=true then pure (.done (some (o.push z++b.extract y b.size++a.extract (x+1) a.size),o.push z,x+1,y,mg,ac,bc))
  else if (decide (ac<7) && decide (bc<7))=true then pure (.done (none,o.push z,x+1,y,mg,ac,bc))
  else pure (.yield (none,o.push z,x+1,y,mg,ac,bc))
def vV (a b o:Array Az)(x y mg ac bc:Nat):StateT AS Sem (ForInStep LoC):=do
  let z ← elem' b y
  if (y+1 == b.size)=true then pure (.done (some (o.push z++a.extract x a.size++b.extract (y+1) b.size),o.push z,x,y+1,mg,ac,bc))
  else do
    let z2 ← elem' a x
    let __x ← gal true z2 b (y+1) (b.size-(y+1)) 0
    match __x with
    | some k =>
      if k>0 then
        if (y+1+k == b.size)=true then pure (.done (some (o.push z++b.extract (y+1) (y+1+k)++a.extract x a.size++b.extract (y+1+k) b.size),o.push z++b.extract (y+1) (y+1+k),x,y+1+k,mg,ac,k))
        else vT a b (o.push z++b.extract (y+1) (y+1+k)) x (y+1+k) mg ac k
      else vT a b (o.push z) x (y+1) mg ac k
    | _=>pure (.done (some (o.push z++a.extract x a.size++b.extract (y+1) b.size),o.push z,x,y+1,mg,ac,bc))
def rO (a b p:Array Az)(x y ac bc mg:Nat):StateT AS Sem (ForInStep LoC):=do
  modify (λs=>SortSt.mk' (kindOf s) (AH s) (AO s) mg (failedOf s))
  let z ← elem' b y
  let __x ← gal false z a x (a.size-x) 0
  match __x with
  | some k =>
    if k>0 then
      if (x+k+1 == a.size)=true then pure (.done (some (p++a.extract x (x+k)++b.extract y b.size++a.extract (x+k) a.size),p++a.extract x (x+k),x+k,y,mg,k,bc))
      else if (x+k == a.size)=true then pure (.done (some (p++a.extract x (x+k)++a.extract (x+k) a.size++b.extract y b.size),p++a.extract x (x+k),x+k,y,mg,k,bc))
      else vV a b (p++a.extract x (x+k)) (x+k) y mg k bc
    else vV a b p x y mg k bc
  | _=>pure (.done (some (p++a.extract x a.size++b.extract y b.size),p,x,y,mg,ac,bc))
def LoQ (key:Az->O.α)(a b:Array Az)(st:AS)(n:Nat)(r:ForInStep LoC)(st':AS):Prop:=match r with
 | .done c=>Sm st st'/\((∃r p x y mg ac bc,c=(some r,p,x,y,mg,ac,bc)/\dj key a b r)\/∃p x y mg ac bc,c=(none,p,x,y,mg,ac,bc)/\MW key a b p x y/\x+1<a.size/\y<b.size/\n<=p.size)
 | .yield c=>Sm st st'/\∃p x y mg ac bc,c=(none,p,x,y,mg,ac,bc)/\MW key a b p x y/\x+1<a.size/\y<b.size/\n<=p.size
theorem LoQ.out {a b:Array Az}{st st':AS}{n:Nat}{r:Array Az}{c:Array Az×Nat×Nat×Nat×Nat×Nat}(sm:Sm st st')(f:dj key a b r):LoQ key a b st n (.done (some r,c)) st':=by
 obtain ⟨p,x,y,mg,ac,bc⟩:=c
 exact ⟨sm,.inl ⟨_,_,_,_,_,_,_,rfl,f⟩⟩
theorem qt {a b:Array Az}{st st':AS}(ha:a.toList.Pairwise (Le key))(hb:b.toList.Pairwise (Le key))(hl:∀p q,p∈b.toList->a[a.size-1]? = some q->Le key p q)
  {o:Array Az} {x y mg ac bc n:Nat} {za:Az} (sm:Sm st st') (ea:a[x]? = some za) (m4:MW key a b (o.push za) (x+1) y) (hx:x+1<a.size) (hy:y<b.size) (hn:n<=o.size):wpS (AM prog w) A E s (vT a b o x y mg ac bc) (LoQ key a b st n) st':=by
 unfold vT
 refine Av (aT ea ?_)
 by_cases d5:(x+1+1 == a.size)=true
 ·rw[if_pos d5]
  exact AB (LoQ.out sm (m4.last ha hb (beq_iff_eq.mp d5) hl))
 rw[if_neg d5]
 have hx2:x+1+1<a.size:=ltq hx d5
 have hn':n<=(o.push za).size:=by rw[Dv];exact DR hn
 split
 ·exact AB ⟨sm,.inr ⟨_,_,_,_,_,_,rfl,m4,hx2,hy,hn'⟩⟩
 ·exact AB ⟨sm,_,_,_,_,_,_,rfl,m4,hx2,hy,hn'⟩
theorem qu (C:Cmp prog w A s O key U κ){a b:Array Az}{st st':AS}(hκ:kindOf st=κ)(ua:∀p∈a.toList,U p)(ub:∀p∈b.toList,U p)
  (ha:a.toList.Pairwise (Le key)) (hb:b.toList.Pairwise (Le key)) (hl:∀p q,p∈b.toList->a[a.size-1]? = some q->Le key p q)
  {o:Array Az} {x y mg ac bc n:Nat} {zb:Az} (sm:Sm st st') (eb:b[y]? = some zb) (mk:MW key a b o x y) (bl:∀t∈a.toList.drop x,Le key zb t) (hx1:x+1<a.size) (hy:y<b.size) (hn:n<=o.size):wpS (AM prog w) A E s (vV a b o x y mg ac bc) (LoQ key a b st n) st':=by
 unfold vV
 refine Av (aT eb ?_)
 have m2:=mk.kY eb hb bl
 by_cases d3:(y+1 == b.size)=true
 ·rw[if_pos d3]
  exact AB (LoQ.out sm (m2.rM ha (beq_iff_eq.mp d3)))
 rw[if_neg d3]
 have hy1:y+1<b.size:=ltq hy d3
 have hxa:x<a.size:=Cw hx1
 obtain ⟨za,ea⟩:=aV hxa
 refine Av (aT ea ?_)
 refine Av (yj C (λi=>(b[y+1+i]?).getD za) (sm.k.trans hκ) (ua _ (bF ea)) (λi hi =>?_) (λi hi =>?_) (λi j hij hj =>?_) (G1 hy1) λk1 hk1 g1 g2 =>?_)
 ·obtain ⟨z,e⟩:=aV (show y+1+i<b.size by omega)
  rw[e];rfl
 ·obtain ⟨z,e⟩:=aV (show y+1+i<b.size by omega)
  rw[e];exact ub _ (bF e)
 ·obtain ⟨z,e⟩:=aV (show y+1+i<b.size by omega)
  obtain ⟨z',e'⟩:=aV (show y+1+j<b.size by omega)
  rw[e,e'];exact aI hb (aG e) (aG e') (D7 hij _)
 dsimp only at g1 g2 ⊢
 have tb:∀j q,j<k1->b.toList[y+1+j]? = some q->∀t∈a.toList.drop x,Le key q t:=λj q hj e t ht=>by
  have z:=g1 j hj
  rw[Ap] at e
  rw[e] at z
  obtain ⟨n,hn,e2⟩:=aS ht
  exact A6 (BM z) (aI ha (aG ea) e2 hn)
 have hk1':y+1+k1<=b.size:=by omega
 have m3:=m2.ug (k:=k1) hk1' hb tb
 have bl2:∀t∈b.toList.drop (y+1+k1),Le key za t:=λt ht=>by
  obtain ⟨n,hn,e2⟩:=aS ht
  rw[Ap] at e2
  have hn2:n<b.size:=(B3.mp e2).1
  have z:=g2 (n-(y+1)) (by omega) (by omega)
  rw[show y+1+(n-(y+1))=n by omega,e2] at z
  exact z
 have hn1:n<=(o.push zb).size:=by rw[Dv];exact DR hn
 by_cases k2:k1>0
 ·rw[if_pos k2]
  by_cases d4:(y+1+k1 == b.size)=true
  ·rw[if_pos d4]
   exact AB (LoQ.out sm (m3.rM ha (beq_iff_eq.mp d4)))
  rw[if_neg d4]
  exact qt ha hb hl sm ea (m3.iP ea ha bl2) hx1 (ltq hk1' d4) (A4 hn1 (by rw[DS];exact CJ _ _))
 ·rw[if_neg k2]
  obtain rfl:k1=0:=DH k2
  exact qt ha hb hl sm ea (m2.iP ea ha bl2) hx1 hy1 hn1
theorem qv (C:Cmp prog w A s O key U κ){a b:Array Az}{st st':AS}(hκ:kindOf st=κ)(ua:∀p∈a.toList,U p)(ub:∀p∈b.toList,U p)
  (ha:a.toList.Pairwise (Le key)) (hb:b.toList.Pairwise (Le key)) (hl:∀p q,p∈b.toList->a[a.size-1]? = some q->Le key p q)
  {p:Array Az} {x y ac bc n:Nat} (mg:Nat) (sm:Sm st st') (m:MW key a b p x y) (hx:x+1<a.size) (hy:y<b.size) (hn:n<=p.size):wpS (AM prog w) A E s (rO a b p x y ac bc mg) (LoQ key a b st n) st':=by
 unfold rO
 obtain ⟨zb,eb⟩:=aV hy
 refine Av (CY ?_)
 refine Av (aT eb ?_)
 refine Av (yi C (λi=>(a[x+i]?).getD zb) ((sm.mg _).k.trans hκ) (ub _ (bF eb)) (λi hi =>?_) (λi hi =>?_) (λi j hij hj =>?_) (G1 (Cw hx)) λk hk h1 h2 =>?_)
 ·obtain ⟨z,e⟩:=aV (show x+i<a.size by lia)
  rw[e];rfl
 ·obtain ⟨z,e⟩:=aV (show x+i<a.size by lia)
  rw[e];exact ua _ (bF e)
 ·obtain ⟨z,e⟩:=aV (show x+i<a.size by lia)
  obtain ⟨z',e'⟩:=aV (show x+j<a.size by lia)
  rw[e,e'];exact aI ha (aG e) (aG e') (D7 hij _)
 dsimp only at h1 h2 ⊢
 have ta:∀j q,j<k->a.toList[x+j]? = some q->∀t∈b.toList.drop y,Le key q t:=λj q hj e t ht=>by
  have z:=h1 j hj
  rw[Ap] at e
  rw[e] at z
  obtain ⟨n,hn,e2⟩:=aS ht
  exact A6 (show O.kle (key q) (key zb) from z) (aI hb (aG eb) e2 hn)
 have hk':x+k<=a.size:=by lia
 have mk:=m.uf (k:=k) hk' ha ta
 have bl:∀t∈a.toList.drop (x+k),Le key zb t:=λt ht=>by
  obtain ⟨n,hn,e2⟩:=aS ht
  rw[Ap] at e2
  have hn2:n<a.size:=(B3.mp e2).1
  have z:=h2 (n-x) (by lia) (by lia)
  rw[show x+(n-x)=n by lia,e2] at z
  exact BM z
 by_cases k0:k>0
 ·rw[if_pos k0]
  by_cases d1:(x+k+1 == a.size)=true
  ·rw[if_pos d1]
   exact AB (LoQ.out (sm.mg _) (mk.last ha hb (beq_iff_eq.mp d1) hl))
  rw[if_neg d1]
  by_cases d2:(x+k == a.size)=true
  ·rw[if_pos d2]
   exact AB (LoQ.out (sm.mg _) (mk.rN hb (beq_iff_eq.mp d2)))
  rw[if_neg d2]
  exact qu C hκ ua ub ha hb hl (sm.mg _) eb mk bl (ltq (ltq hk' d2) d1) hy (A4 hn (by rw[DS];exact CJ _ _))
 ·rw[if_neg k0]
  obtain rfl:k=0:=DH k0
  exact qu C hκ ua ub ha hb hl (sm.mg _) eb m bl hx hy hn
theorem vX (C:Cmp prog w A s O key U κ){a b:Array Az}{st st':AS}(hκ:kindOf st=κ)(ua:∀p∈a.toList,U p)(ub:∀p∈b.toList,U p)
  (ha:a.toList.Pairwise (Le key)) (hb:b.toList.Pairwise (Le key)) (hl:∀p q,p∈b.toList->a[a.size-1]? = some q->Le key p q)
  {p:Array Az} {x y ac bc n mg:Nat} (sm:Sm st st') (m:MW key a b p x y) (hx:x+1<a.size) (hy:y<b.size) (hn:n<=p.size):wpS (AM prog w) A E s (if mg>1 then rO a b p x y ac bc (mg-1) else rO a b p x y ac bc mg) (LoQ key a b st n) st':=by
 split
 ·exact qv C hκ ua ub ha hb hl (mg-1) sm m hx hy hn
 ·exact qv C hκ ua ub ha hb hl mg sm m hx hy hn
abbrev LoD:=Option (Array Az)×Array Az×Nat×Nat×Nat×Nat
abbrev LoE:=Option (Array Az)×Array Az×Nat×Nat×Nat
def uh (a b:Array Az)(mg:Nat)(c:LoD):StateT AS Sem (ForInStep LoD):=do
  let u ← elem' b c.2.2.2.1
  let v ← elem' a c.2.2.1
  let __x ← lt' u v
  match __x with
  | some bw =>
    if bw=true then do
      let z ← elem' b c.2.2.2.1
      if (c.2.2.2.1+1 == b.size)=true then pure (.done (some (c.2.1.push z++a.extract c.2.2.1 a.size++b.extract (c.2.2.2.1+1) b.size),c.2.1.push z,c.2.2.1,c.2.2.2.1+1,0,c.2.2.2.2.2+1))
      else if c.2.2.2.2.2+1≥mg then pure (.done (none,c.2.1.push z,c.2.2.1,c.2.2.2.1+1,0,c.2.2.2.2.2+1))
      else pure (.yield (none,c.2.1.push z,c.2.2.1,c.2.2.2.1+1,0,c.2.2.2.2.2+1))
    else do
      let z ← elem' a c.2.2.1
      if (c.2.2.1+1+1 == a.size)=true then pure (.done (some (c.2.1.push z++b.extract c.2.2.2.1 b.size++a.extract (c.2.2.1+1) a.size),c.2.1.push z,c.2.2.1+1,c.2.2.2.1,c.2.2.2.2.1+1,0))
      else if c.2.2.2.2.1+1≥mg then pure (.done (none,c.2.1.push z,c.2.2.1+1,c.2.2.2.1,c.2.2.2.2.1+1,0))
      else pure (.yield (none,c.2.1.push z,c.2.2.1+1,c.2.2.2.1,c.2.2.2.2.1+1,0))
  | _=>pure (.done (some (c.2.1++a.extract c.2.2.1 a.size++b.extract c.2.2.2.1 b.size),c.2.1,c.2.2.1,c.2.2.2.1,c.2.2.2.2.1,c.2.2.2.2.2))
def yk (a b:Array Az)(c:LoC):StateT AS Sem (ForInStep LoC) :=
 if c.2.2.2.2.1>1 then rO a b c.2.1 c.2.2.1 c.2.2.2.1 c.2.2.2.2.2.1 c.2.2.2.2.2.2 (c.2.2.2.2.1-1) else rO a b c.2.1 c.2.2.1 c.2.2.2.1 c.2.2.2.2.2.1 c.2.2.2.2.2.2 c.2.2.2.2.1
def o9 (a b:Array Az)(c:LoE):StateT AS Sem (ForInStep LoE):=do
  let d ← forIn [0:a.size+b.size] ((none,c.2.1,c.2.2.1,c.2.2.2.1,0,0):LoD) λ_ d=>uh a b c.2.2.2.2 d
  match d.1 with
  | some r=>pure (.done (some r,d.2.1,d.2.2.1,d.2.2.2.1,c.2.2.2.2))
  | none=>do
    rule "list.sort.gallop"
    let e ← forIn [0:a.size+b.size] ((none,d.2.1,d.2.2.1,d.2.2.2.1,c.2.2.2.2+1,d.2.2.2.2.1,d.2.2.2.2.2):LoC) λ_ e=>yk a b e
    match e.1 with
    | some r=>pure (.done (some r,e.2.1,e.2.2.1,e.2.2.2.1,e.2.2.2.2.1))
    | none=>do
      modify (λs=>SortSt.mk' (kindOf s) (AH s) (AO s) (e.2.2.2.2.1+1) (failedOf s))
      pure (.yield (none,e.2.1,e.2.2.1,e.2.2.2.1,e.2.2.2.2.1+1))
theorem vY (a b:Array Az):mLo a b=(do
    rule "list.sort.merge-lo"
    let z ← elem' b 0
    if (1 == b.size)=true then pure (#[z]++a.extract 0 a.size++b.extract 1 b.size)
    else if (0+1 == a.size)=true then pure (#[z]++b.extract 1 b.size++a.extract 0 a.size)
    else do
      let g ← get
      let c ← forIn [0:a.size+b.size] ((none, #[z],0,1,gallopOf g):LoE) λ_ c=>o9 a b c
      match c.1 with
      | some r=>pure r
      | none=>unsupported "internal:list.sort.merge-bound"):=by
  kernel_rfl
def LdI (key:Az->O.α)(a b:Array Az)(st:AS)(n:Nat)(c:LoD)(st':AS):Prop:=Sm st st'/\∃o' x y ac bc,c=(none,o',x,y,ac,bc)/\MW key a b o' x y/\x+1<a.size/\y<b.size/\n<=o'.size
def LdQ (key:Az->O.α)(a b:Array Az)(st:AS)(n:Nat)(c:LoD)(st':AS):Prop:=Sm st st'/\((∃r o x y ac bc,c=(some r,o,x,y,ac,bc)/\dj key a b r)\/∃o' x y ac bc,c=(none,o',x,y,ac,bc)/\MW key a b o' x y/\x+1<a.size/\y<b.size/\n<=o'.size)
theorem ui (C:Cmp prog w A s O key U κ){a b:Array Az}{st st':AS}(hκ:kindOf st=κ)(ua:∀p∈a.toList,U p)(ub:∀p∈b.toList,U p)
  (ha:a.toList.Pairwise (Le key)) (hb:b.toList.Pairwise (Le key)) (hl:∀p q,p∈b.toList->a[a.size-1]? = some q->Le key p q)
  {mg n m':Nat} {c:LoD} (I:LdI key a b st n c st') (hm:m'<=n+1) {Q:ForInStep LoD->AS->Prop} (h:∀r st',(match r with | .done c'=>LdQ key a b st (n+1) c' st' | .yield c'=>LdI key a b st m' c' st')->Q r st'):wpS (AM prog w) A E s (uh a b mg c) Q st':=by
 obtain ⟨sm2,o',x,y,ac,bc,rfl,m,hx,hy,hz⟩:=I
 unfold uh
 obtain ⟨za,ea⟩:=aV (Cw hx)
 obtain ⟨zb,eb⟩:=aV hy
 refine Av (aT eb (Av (aT ea (Av (C.lt _ st' zb za _ (sm2.k.trans hκ) (ub _ (bF eb)) (ua _ (bF ea)) ?_)))))
 dsimp only
 have sz:∀z,n+1<=(o'.push z).size:=λz=>by rw[Dv];exact Hl hz
 cases hlt:O.blt (key zb) (key za) with
 | true =>
  rw[if_pos rfl]
  refine Av (aT eb ?_)
  have m1:=m.kY eb hb λt ht=>by
   obtain ⟨n,hn,e⟩:=aS ht
   exact A6 (BM hlt) (aI ha (aG ea) e hn)
  by_cases c3:(y+1 == b.size)=true
  ·rw[if_pos c3]
   exact AB (h _ _ ⟨sm2,.inl ⟨_,_,_,_,_,_,rfl,m1.rM ha (beq_iff_eq.mp c3)⟩⟩)
  ·rw[if_neg c3]
   have c3':=ltq hy c3
   split
   ·exact AB (h _ _ ⟨sm2,.inr ⟨_,_,_,_,_,rfl,m1,hx,c3',sz _⟩⟩)
   ·exact AB (h _ _ ⟨sm2,_,_,_,_,_,rfl,m1,hx,c3',A4 hm (sz _)⟩)
 | false =>
  rw[if_neg Ak]
  refine Av (aT ea ?_)
  have m1:=m.iP ea ha λt ht=>by
   obtain ⟨n,hn,e⟩:=aS ht
   exact A6 (show O.kle (key za) (key zb) from hlt) (aI hb (aG eb) e hn)
  by_cases c3:(x+1+1 == a.size)=true
  ·rw[if_pos c3]
   exact AB (h _ _ ⟨sm2,.inl ⟨_,_,_,_,_,_,rfl,m1.last ha hb (beq_iff_eq.mp c3) hl⟩⟩)
  ·rw[if_neg c3]
   have c3':=ltq hx c3
   split
   ·exact AB (h _ _ ⟨sm2,.inr ⟨_,_,_,_,_,rfl,m1,c3',hy,sz _⟩⟩)
   ·exact AB (h _ _ ⟨sm2,_,_,_,_,_,rfl,m1,c3',hy,A4 hm (sz _)⟩)
def LeI (key:Az->O.α)(a b:Array Az)(st:AS)(n:Nat)(c:LoE)(st':AS):Prop:=Sm st st'/\∃o x y mg,c=(none,o,x,y,mg)/\MW key a b o x y/\x+1<a.size/\y<b.size/\n+1<=o.size
def LeQ (key:Az->O.α)(a b:Array Az)(st:AS)(c:LoE)(st':AS):Prop:=Sm st st'/\((∃r o x y mg,c=(some r,o,x,y,mg)/\dj key a b r)\/∃o x y mg,c=(none,o,x,y,mg)/\MW key a b o x y/\x+1<a.size/\y<b.size/\a.size+b.size+1<=o.size)
theorem rP (C:Cmp prog w A s O key U κ){a b:Array Az}{st st':AS}(hκ:kindOf st=κ)(ua:∀p∈a.toList,U p)(ub:∀p∈b.toList,U p)
  (ha:a.toList.Pairwise (Le key)) (hb:b.toList.Pairwise (Le key)) (na:0<a.size) (hl:∀p q,p∈b.toList->a[a.size-1]? = some q->Le key p q)
  {n:Nat} {c:LoE} (I:LeI key a b st n c st'):wpS (AM prog w) A E s (o9 a b c) (λr st'=>match r with | .done c'=>LeQ key a b st c' st' | .yield c'=>LeI key a b st (n+1) c' st') st':=by
 obtain ⟨sm1,o,x,y,mg,rfl,m,hx,hy,hz⟩:=I
 unfold o9
 have q1:1<=a.size+b.size:=A4 na (CJ _ _)
 refine Av (CB (BJ (I:=λj c st'=>LdI key a b st (o.size+min j 1) c st') (Q:=LdQ key a b st (o.size+1)) (λj c st2 _ hj J=>ui (n:=o.size+min j 1) (m':=o.size+min (j+1) 1) C hκ ua ub ha hb hl J (by lia) λr st' k =>?_) (λc st' J =>?_) ⟨sm1,o,x,y,0,0,rfl,m,hx,hy,Ag _⟩) ?_)
 ·cases r with
  | done c'=>exact k.imp id λz=>z.imp id λ⟨o',x,y,ac,bc,e,m,hx,hy,hz⟩=>⟨o',x,y,ac,bc,e,m,hx,hy,by lia⟩
  | yield c'=>exact k
 ·obtain ⟨sm,o',x,y,ac,bc,e,m,hx,hy,hz⟩:=J
  exact ⟨sm,.inr ⟨o',x,y,ac,bc,e,m,hx,hy,by lia⟩⟩
 rintro c st2 ⟨sm2,⟨r,o',x,y,ac,bc,rfl,fr⟩ | ⟨o',x,y,ac,bc,rfl,m,hx,hy,hz2⟩⟩
 ·exact AB ⟨sm2,.inl ⟨_,_,_,_,_,rfl,fr⟩⟩
 dsimp only
 refine Av (FC (Dh ⟨rfl,?_⟩))
 refine Av (CB (BJ (I:=λ_ c st'=>LoQ key a b st o'.size (.yield c) st') (Q:=λc st'=>LoQ key a b st o'.size (.done c) st') (λj c st3 _ hj J =>?_) (λc st' J=>⟨J.1,.inr J.2⟩) ⟨sm2,o',x,y,_,ac,bc,rfl,m,hx,hy,Ag _⟩) ?_)
 ·obtain ⟨sm3,p,x,y,mg,ac,bc,rfl,m,hx,hy,hz3⟩:=J
  refine CB (vX C hκ ua ub ha hb hl sm3 m hx hy hz3) ?_
  intro r st' h
  cases r <;> exact h
 rintro c st3 ⟨sm3,⟨r,p,x,y,mg,ac,bc,rfl,fr⟩ | ⟨p,x,y,mg,ac,bc,rfl,m,hx,hy,hz3⟩⟩
 ·exact AB ⟨sm3,.inl ⟨_,_,_,_,_,rfl,fr⟩⟩
 ·dsimp only
  exact Av (CY (AB ⟨sm3.mg _,p,x,y,_,rfl,m,hx,hy,by lia⟩))
theorem yo (C:Cmp prog w A s O key U κ){a b:Array Az}{st:AS}{Q:Array Az->AS->Prop}(hκ:kindOf st=κ)(ua:∀p∈a.toList,U p)(ub:∀p∈b.toList,U p)
  (ha:a.toList.Pairwise (Le key)) (hb:b.toList.Pairwise (Le key)) (na:0<a.size) (nb:0<b.size) (h0:∀p q,b[0]? = some p->a[0]? = some q->Le key p q) (hl:∀p q,p∈b.toList->a[a.size-1]? = some q->Le key p q)
  (h:∀r st',Sm st st'->dj key a b r->Q r st'):wpS (AM prog w) A E s (mLo a b) Q st:=by
 rw[vY]
 refine Av (FC (Dh ⟨rfl,?_⟩))
 obtain ⟨b0,eb0⟩:=aV nb
 obtain ⟨a0,ea0⟩:=aV na
 have a0le:∀t∈a.toList,Le key a0 t:=λt ht=>by
  obtain ⟨i,e⟩:=Bb.mp ht
  exact aI ha (aG ea0) e (A7 _)
 have m0:MW key a b #[] 0 0:=⟨A7 _,A7 _,DV _,List.Pairwise.nil,λp hp=>by cases hp⟩
 have m1:MW key a b #[b0] 0 1:=m0.kY eb0 hb λt ht=>A6 (h0 _ _ eb0 ea0) (a0le t ht)
 refine Av (aT eb0 ?_)
 by_cases c1:(1 == b.size)=true
 ·rw[if_pos c1]
  exact AB (h _ st (Sm.refl st) (m1.rM ha (beq_iff_eq.mp c1)))
 rw[if_neg c1]
 by_cases c2:(0+1 == a.size)=true
 ·rw[if_pos c2]
  exact AB (h _ st (Sm.refl st) (m1.last ha hb (beq_iff_eq.mp c2) hl))
 rw[if_neg c2]
 refine Av (Fj ?_)
 refine Av (CB (BJ (I:=λi c st'=>LeI key a b st i c st') (Q:=LeQ key a b st) (λi c st1 _ _ J=>CB (rP C hκ ua ub ha hb na hl J) λr st' h=>by cases r <;> exact h) (λc st' J =>?_) ⟨Sm.refl st,_,_,_,_,rfl,m1,ltq na c2,ltq nb c1,Ag _⟩) ?_)
 ·obtain ⟨sm,o,x,y,mg,e,m,hx,hy,hz⟩:=J
  exact ⟨sm,.inr ⟨o,x,y,mg,e,m,hx,hy,by lia⟩⟩
 rintro c st' ⟨sm,⟨r,o,x,y,mg,rfl,fr⟩ | ⟨o,x,y,mg,rfl,m,hx,hy,hz⟩⟩
 ·exact AB (h r st' sm fr)
 ·have:=m.size
  lia
end
open PySem PyProof.Rows
section
variable  {O:E1}(key:Az->O.α)
structure MV (a b o:Array Az)(x y:Nat):Prop where
 hx:x<=a.size
 hy:y<=b.size
 perm:((a.toList.take x++b.toList.take y)++o.toList.reverse).Perm (a.toList++b.toList)
 sorted:o.toList.reverse.Pairwise (Le key)
 above:∀p∈a.toList.take x++b.toList.take y,∀q∈o.toList.reverse,Le key p q
variable  {key}
theorem MV.fin {a b o:Array Az}{x y:Nat}(m:MV key a b o x y){t:List Az}{r:Array Az}(hr:r.toList=t++o.toList.reverse)(ht:t.Perm (a.toList.take x++b.toList.take y))(hs:t.Pairwise (Le key)):dj key a b r:=by
 unfold dj
 rw[hr]
 exact ⟨(Dd _ ht).trans m.perm,BO.mpr ⟨hs,m.sorted,λp hp q hq=>m.above p (ht.mem_iff.mp hp) q hq⟩⟩
theorem MV.take {a b o:Array Az}{x y x' y':Nat}(m:MV key a b o x y){t:List Az}{r:Array Az}(hr:r.toList.reverse=t++o.toList.reverse)(hx:x'<=a.size)(hy:y'<=b.size)
  (ht:((a.toList.take x'++b.toList.take y')++t).Perm (a.toList.take x++b.toList.take y)) (hs:t.Pairwise (Le key)) (hb:∀p∈a.toList.take x'++b.toList.take y',∀q∈t,Le key p q):MV key a b r x' y':=by
 have sub:∀z,z∈a.toList.take x'++b.toList.take y'\/z∈t->z∈a.toList.take x++b.toList.take y:=λz hz=>ht.mem_iff.mp (As.mpr hz)
 refine ⟨hx,hy,?_,?_,?_⟩
 ·rw[hr, <- A1]
  exact (Dd _ ht).trans m.perm
 ·rw[hr]
  exact BO.mpr ⟨hs,m.sorted,λp hp q hq=>m.above p (sub p (.inr hp)) q hq⟩
 ·rw[hr]
  intro p hp z hz
  rcases As.mp hz with h | h
  ·exact hb p hp z h
  ·exact m.above p (sub p (.inl hp)) z h
theorem aW {l:List Az}{k:Nat}{t:Az}(h:t∈l.take k):∃j,j<k/\l[j]? = some t:=by
 obtain ⟨n,e⟩:=Bb.mp h
 rw[Cn] at e
 split at e
 ·exact ⟨n,by omega,e⟩
 ·cases e
theorem kZ {l:List Az}{x:Nat}{z:Az}(hx:1<=x)(h:l[x-1]? = some z):l.take x=l.take (x-1)++[z]:=by
 obtain ⟨n,rfl⟩:∃n,x=n+1:=⟨x-1,by lia⟩
 rw[Nat.add_sub_cancel] at h ⊢
 rw[Bm,h]
 rfl
theorem qw (a:Array Az)(c x:Nat)(hx:x<=a.size):(a.extract c x).toList=(a.toList.take x).drop c:=by
 rw[CM,B8,List.drop_take]
theorem fE (a:Array Az)(x:Nat):(a.extract 0 x).toList=a.toList.take x:=by
 rw[CM,B8,ED,FV]
theorem MV.iP {a b o:Array Az}{x y:Nat}{z:Az}(m:MV key a b o x y)(h1:1<=x)(h:a[x-1]? = some z)(ha:a.toList.Pairwise (Le key))(hb:∀t∈b.toList.take y,Le key t z):MV key a b (o.push z) (x-1) y:=by
 have e:=kZ h1 (aG h)
 refine m.take (t:=[z]) (by rw[Cv,D8];rfl) (by have:=m.hx;lia) m.hy ?_ (CP _ _) λp hp q hq =>?_
 ·rw[e,A1,A1]
  exact Cf _ DM
 ·have eq:q=z:=by simpa using hq
  subst eq
  rcases As.mp hp with r | r
  ·obtain ⟨j,hj,e2⟩:=aW r
   exact aI ha e2 (aG h) (by lia)
  ·exact hb p r
theorem MV.kY {a b o:Array Az}{x y:Nat}{z:Az}(m:MV key a b o x y)(h1:1<=y)(h:b[y-1]? = some z)(hb:b.toList.Pairwise (Le key))(ha:∀t∈a.toList.take x,Le key t z):MV key a b (o.push z) x (y-1):=by
 have e:=kZ h1 (aG h)
 refine m.take (t:=[z]) (by rw[Cv,D8];rfl) m.hx (by have:=m.hy;lia) ?_ (CP _ _) λp hp q hq =>?_
 ·rw[e,A1]
 ·have eq:q=z:=by simpa using hq
  subst eq
  rcases As.mp hp with r | r
  ·exact ha p r
  ·obtain ⟨j,hj,e2⟩:=aW r
   exact aI hb e2 (aG h) (by lia)
theorem qx (l:List Az){c x:Nat}(h:c<=x):l.take x=l.take c++(l.take x).drop c:=by
 have e:(l.take x).take c=l.take c:=by rw[List.take_take,Hu h]
 rw[<- e,CD]
theorem jJ {l:List Az}{c x:Nat}{t:Az}(h:t∈(l.take x).drop c):∃j,c<=j/\j<x/\l[j]? = some t:=by
 obtain ⟨j,hj,e⟩:=aS h
 rw[Cn] at e
 split at e
 ·exact ⟨j,hj,by omega,e⟩
 ·cases e
theorem MV.uf {a b o:Array Az}{x y c:Nat}(m:MV key a b o x y)(hc:c<=x)(ha:a.toList.Pairwise (Le key))(hb:∀j p,c<=j->j<x->a.toList[j]? = some p->∀t∈b.toList.take y,Le key t p):MV key a b (o++(a.extract c x).reverse) c y:=by
 refine m.take (t:=(a.toList.take x).drop c) (by rw[A8,D8,Ds,Gd,qw _ _ _ m.hx]) (A4 hc m.hx) m.hy ?_ ?_ λp hp q hq =>?_
 ·refine List.Perm.trans ?_ (Dd _ (List.Perm.of_eq (qx a.toList hc).symm))
  rw[A1,A1]
  exact Cf _ DM
 ·exact ha.sublist ((BE _ _).trans (BL _ _))
 ·obtain ⟨j,h1,h2,e⟩:=jJ hq
  rcases As.mp hp with r | r
  ·obtain ⟨i,hi,e2⟩:=aW r
   exact aI ha e2 e (by lia)
  ·exact hb j q h1 h2 e p r
theorem MV.ug {a b o:Array Az}{x y c:Nat}(m:MV key a b o x y)(hc:c<=y)(hb:b.toList.Pairwise (Le key))(ha:∀j p,c<=j->j<y->b.toList[j]? = some p->∀t∈a.toList.take x,Le key t p):MV key a b (o++(b.extract c y).reverse) x c:=by
 refine m.take (t:=(b.toList.take y).drop c) (by rw[A8,D8,Ds,Gd,qw _ _ _ m.hy]) m.hx (A4 hc m.hy) ?_ ?_ λp hp q hq =>?_
 ·rw[A1, <- qx b.toList hc]
 ·exact hb.sublist ((BE _ _).trans (BL _ _))
 ·obtain ⟨j,h1,h2,e⟩:=jJ hq
  rcases As.mp hp with r | r
  ·exact ha j q h1 h2 e p r
  ·obtain ⟨i,hi,e2⟩:=aW r
   exact aI hb e2 e (by lia)
theorem MV.rN {a b o:Array Az}{x y:Nat}(m:MV key a b o x y)(hb:b.toList.Pairwise (Le key))(hx:x=0):dj key a b (a.extract 0 x++b.extract 0 y++o.reverse):=by
 subst hx
 refine m.fin (t:=b.toList.take y) (by rw[A8,A8,fE,fE,Ds,Fe,Eo]) (by rw[Fe,Eo]) (hb.sublist (BL _ _))
theorem MV.rM {a b o:Array Az}{x y:Nat}(m:MV key a b o x y)(ha:a.toList.Pairwise (Le key))(hy:y=0):dj key a b (a.extract 0 x++b.extract 0 y++o.reverse):=by
 subst hy
 refine m.fin (t:=a.toList.take x) (by rw[A8,A8,fE,fE,Ds,Fe,AU]) (by rw[Fe,AU]) (ha.sublist (BL _ _))
theorem MV.first {a b o:Array Az}{x y:Nat}(m:MV key a b o x y)(ha:a.toList.Pairwise (Le key))(hb:b.toList.Pairwise (Le key))(hy:y=1)(hl:∀p q,b[0]? = some p->q∈a.toList->Le key p q):dj key a b (b.extract 0 y++a.extract 0 x++o.reverse):=by
 refine m.fin (t:=b.toList.take y++a.toList.take x) (by rw[A8,A8,fE,fE,Ds]) DM ?_
 refine BO.mpr ⟨hb.sublist (BL _ _),ha.sublist (BL _ _),λp hp q hq=>hl p q ?_ (B6 hq)⟩
 obtain ⟨i,hi,e⟩:=aW hp
 rw[Ap] at e
 rw[show i=0 by lia] at e
 exact e
theorem MV.size {a b o:Array Az}{x y:Nat}(m:MV key a b o x y):o.size+x+y=a.size+b.size:=by
 have e:=m.perm.length_eq
 have h1:=m.hx
 have h2:=m.hy
 simp only[Ae,Bf,Ai,C7] at e
 lia
end
open PySem PyProof.Rows
section
variable  {prog:Au}{w:AV}{A:Bd}{E:z9->Ac->Prop}{s:Ac}{O:E1}{key:Az->O.α}{U:Az->Prop}{κ:SortKind}
abbrev HiC:=Option (Array Az)×Nat×Nat×Array Az×Nat×Nat×Nat
def vZ (a b:Array Az)(x y:Nat)(o:Array Az)(mg ac bc:Nat):StateT AS Sem (ForInStep HiC):=do
  let z ← elem' a (x-1)
  if (x-1 == 0)=true then pure (.done (some (a.extract 0 (x-1)++b.extract 0 y++(o.push z).reverse),x-1,y,o.push z,mg,ac,bc))
  else if (decide (ac<7) && decide (bc<7))=true then pure (.done (none,x-1,y,o.push z,mg,ac,bc))
  else pure (.yield (none,x-1,y,o.push z,mg,ac,bc))
def v3 (a b:Array Az)(x y:Nat)(o:Array Az)(mg ac bc:Nat):StateT AS Sem (ForInStep HiC):=do
  let z ← elem' b (y-1)
  if (y-1 == 1)=true then pure (.done (some (b.extract 0 (y-1)++a.extract 0 x++(o.push z).reverse),x,y-1,o.push z,mg,ac,bc))
  else do
    let z2 ← elem' a (x-1)
    let __x ← gal true z2 b 0 (y-1) (y-1-1)
    match __x with
    | some c =>
      if y-1-c>0 then
        if (c == 1)=true then pure (.done (some (b.extract 0 c++a.extract 0 x++(o.push z++(b.extract c (y-1)).reverse).reverse),x,c,o.push z++(b.extract c (y-1)).reverse,mg,ac,y-1-c))
        else if (c == 0)=true then pure (.done (some (a.extract 0 x++b.extract 0 c++(o.push z++(b.extract c (y-1)).reverse).reverse),x,c,o.push z++(b.extract c (y-1)).reverse,mg,ac,y-1-c))
        else vZ a b x c (o.push z++(b.extract c (y-1)).reverse) mg ac (y-1-c)
      else vZ a b x (y-1) (o.push z) mg ac (y-1-c)
    | _=>pure (.done (some (a.extract 0 x++b.extract 0 (y-1)++(o.push z).reverse),x,y-1,o.push z,mg,ac,bc))
def rQ (a b:Array Az)(x y:Nat)(p:Array Az)(ac bc mg:Nat):StateT AS Sem (ForInStep HiC):=do
  modify (λs=>SortSt.mk' (kindOf s) (AH s) (AO s) mg (failedOf s))
  let z ← elem' b (y-1)
  let __x ← gal false z a 0 x (x-1)
  match __x with
  | some c =>
    if x-c>0 then
      if (c == 0)=true then pure (.done (some (a.extract 0 c++b.extract 0 y++(p++(a.extract c x).reverse).reverse),c,y,p++(a.extract c x).reverse,mg,x-c,bc))
      else v3 a b c y (p++(a.extract c x).reverse) mg (x-c) bc
    else v3 a b x y p mg (x-c) bc
  | _=>pure (.done (some (a.extract 0 x++b.extract 0 y++p.reverse),x,y,p,mg,ac,bc))
def HiQ (key:Az->O.α)(a b:Array Az)(st:AS)(n:Nat)(r:ForInStep HiC)(st':AS):Prop:=match r with
 | .done c=>Sm st st'/\((∃r x y p mg ac bc,c=(some r,x,y,p,mg,ac,bc)/\dj key a b r)\/∃x y p mg ac bc,c=(none,x,y,p,mg,ac,bc)/\MV key a b p x y/\1<=x/\2<=y/\n<=p.size)
 | .yield c=>Sm st st'/\∃x y p mg ac bc,c=(none,x,y,p,mg,ac,bc)/\MV key a b p x y/\1<=x/\2<=y/\n<=p.size
theorem HiQ.out {a b:Array Az}{st st':AS}{n:Nat}{r:Array Az}{c:Nat×Nat×Array Az×Nat×Nat×Nat}(sm:Sm st st')(f:dj key a b r):HiQ key a b st n (.done (some r,c)) st':=by
 obtain ⟨p,x,y,mg,ac,bc⟩:=c
 exact ⟨sm,.inl ⟨_,_,_,_,_,_,_,rfl,f⟩⟩
theorem uj {x:Nat}(c:¬ (x == 0)=true):1<=x:=Nat.pos_of_ne_zero λz=>c (beq_iff_eq.mpr z)
theorem v5 {y:Nat}(h:1<=y)(c:¬ (y == 1)=true):2<=y:=GF h λz=>c (beq_iff_eq.mpr z.symm)
theorem qy {a b:Array Az}{st st':AS}(hb:b.toList.Pairwise (Le key))
  {o:Array Az} {x y mg ac bc n:Nat} {za:Az} (sm:Sm st st') (ea:a[x-1]? = some za) (m4:MV key a b (o.push za) (x-1) y) (hy:2<=y) (hn:n<=o.size):wpS (AM prog w) A E s (vZ a b x y o mg ac bc) (HiQ key a b st n) st':=by
 unfold vZ
 refine Av (aT ea ?_)
 by_cases d5:(x-1 == 0)=true
 ·rw[if_pos d5]
  exact AB (HiQ.out sm (m4.rN hb (beq_iff_eq.mp d5)))
 rw[if_neg d5]
 have hx2:=uj d5
 have hn':n<=(o.push za).size:=by rw[Dv];exact DR hn
 split
 ·exact AB ⟨sm,.inr ⟨_,_,_,_,_,_,rfl,m4,hx2,hy,hn'⟩⟩
 ·exact AB ⟨sm,_,_,_,_,_,_,rfl,m4,hx2,hy,hn'⟩
theorem qz (C:Cmp prog w A s O key U κ){a b:Array Az}{st st':AS}(hκ:kindOf st=κ)(ua:∀p∈a.toList,U p)(ub:∀p∈b.toList,U p)
  (ha:a.toList.Pairwise (Le key)) (hb:b.toList.Pairwise (Le key)) (h0:∀p q,b[0]? = some p->q∈a.toList->Le key p q)
  {o:Array Az} {x y mg ac bc n:Nat} {zb:Az} (sm:Sm st st') (eb:b[y-1]? = some zb) (mk:MV key a b o x y) (bl:∀t∈a.toList.take x,Le key t zb) (hx1:1<=x) (hy:2<=y) (hn:n<=o.size):wpS (AM prog w) A E s (v3 a b x y o mg ac bc) (HiQ key a b st n) st':=by
 unfold v3
 refine Av (aT eb ?_)
 have m2:=mk.kY (G2 hy) eb hb bl
 have y1:1<=y-1:=CN hy
 have bx1:=mk.hx
 have by1:=mk.hy
 by_cases d3:(y-1 == 1)=true
 ·rw[if_pos d3]
  exact AB (HiQ.out sm (m2.first ha hb (beq_iff_eq.mp d3) h0))
 rw[if_neg d3]
 have hy1:=v5 y1 d3
 obtain ⟨za,ea⟩:=aV (show x-1<a.size by lia)
 refine Av (aT ea ?_)
 refine Av (yj C (λi=>(b[i]?).getD za) (sm.k.trans hκ) (ua _ (bF ea)) (λi hi =>?_) (λi hi =>?_) (λi j hij hj =>?_) (EN y1) λc2 hc2 g1 g2 =>?_)
 ·obtain ⟨z,e⟩:=aV (show i<b.size by lia)
  rw[DN,e];rfl
 ·obtain ⟨z,e⟩:=aV (show i<b.size by lia)
  rw[e];exact ub _ (bF e)
 ·obtain ⟨z,e⟩:=aV (show i<b.size by lia)
  obtain ⟨z',e'⟩:=aV (show j<b.size by lia)
  rw[e,e'];exact aI hb (aG e) (aG e') hij
 dsimp only at g1 g2 ⊢
 have tb:∀j q,c2<=j->j<y-1->b.toList[j]? = some q->∀t∈a.toList.take x,Le key t q:=λj q hj hj2 e t ht=>by
  have z:=g2 j hj hj2
  rw[Ap] at e
  rw[e] at z
  obtain ⟨n,hn,e2⟩:=aW ht
  exact A6 (aI ha e2 (aG ea) (CN hn)) z
 have m3:=m2.ug hc2 hb tb
 have bl2:∀t∈b.toList.take c2,Le key t za:=λt ht=>by
  obtain ⟨n,hn,e2⟩:=aW ht
  rw[Ap] at e2
  have z:=g1 n hn
  rw[e2] at z
  exact BM z
 have hn1:n<=(o.push zb).size:=by rw[Dv];exact DR hn
 by_cases k2:y-1-c2>0
 ·rw[if_pos k2]
  by_cases d4:(c2 == 1)=true
  ·rw[if_pos d4]
   exact AB (HiQ.out sm (m3.first ha hb (beq_iff_eq.mp d4) h0))
  rw[if_neg d4]
  by_cases d6:(c2 == 0)=true
  ·rw[if_pos d6]
   exact AB (HiQ.out sm (m3.rM ha (beq_iff_eq.mp d6)))
  rw[if_neg d6]
  exact qy hb sm ea (m3.iP hx1 ea ha bl2) (v5 (uj d6) d4) (A4 hn1 (by rw[DS];exact CJ _ _))
 ·rw[if_neg k2]
  have ec2:c2=y-1:=Ep hc2 (FW (DH k2))
  rw[ec2] at bl2
  exact qy hb sm ea (m2.iP hx1 ea ha bl2) hy1 hn1
theorem qA (C:Cmp prog w A s O key U κ){a b:Array Az}{st st':AS}(hκ:kindOf st=κ)(ua:∀p∈a.toList,U p)(ub:∀p∈b.toList,U p)
  (ha:a.toList.Pairwise (Le key)) (hb:b.toList.Pairwise (Le key)) (h0:∀p q,b[0]? = some p->q∈a.toList->Le key p q)
  {p:Array Az} {x y ac bc n:Nat} (mg:Nat) (sm:Sm st st') (m:MV key a b p x y) (hx:1<=x) (hy:2<=y) (hn:n<=p.size):wpS (AM prog w) A E s (rQ a b x y p ac bc mg) (HiQ key a b st n) st':=by
 unfold rQ
 have bx:=m.hx
 have by':=m.hy
 obtain ⟨zb,eb⟩:=aV (show y-1<b.size by lia)
 refine Av (CY ?_)
 refine Av (aT eb ?_)
 refine Av (yi C (λi=>(a[i]?).getD zb) ((sm.mg _).k.trans hκ) (ub _ (bF eb)) (λi hi =>?_) (λi hi =>?_) (λi j hij hj =>?_) (EN hx) λc hc h1 h2 =>?_)
 ·obtain ⟨z,e⟩:=aV (Ax hi bx)
  rw[DN,e];rfl
 ·obtain ⟨z,e⟩:=aV (Ax hi bx)
  rw[e];exact ua _ (bF e)
 ·obtain ⟨z,e⟩:=aV (show i<a.size by lia)
  obtain ⟨z',e'⟩:=aV (show j<a.size by lia)
  rw[e,e'];exact aI ha (aG e) (aG e') hij
 dsimp only at h1 h2 ⊢
 have ta:∀j q,c<=j->j<x->a.toList[j]? = some q->∀t∈b.toList.take y,Le key t q:=λj q hj hj2 e t ht=>by
  have z:=h2 j hj hj2
  rw[Ap] at e
  rw[e] at z
  obtain ⟨n,hn,e2⟩:=aW ht
  exact A6 (aI hb e2 (aG eb) (CN hn)) (BM z)
 have mk:=m.uf hc ha ta
 have bl:∀t∈a.toList.take c,Le key t zb:=λt ht=>by
  obtain ⟨n,hn,e2⟩:=aW ht
  rw[Ap] at e2
  have z:=h1 n hn
  rw[e2] at z
  exact z
 by_cases k0:x-c>0
 ·rw[if_pos k0]
  by_cases d1:(c == 0)=true
  ·rw[if_pos d1]
   exact AB (HiQ.out (sm.mg _) (mk.rN hb (beq_iff_eq.mp d1)))
  rw[if_neg d1]
  exact qz C hκ ua ub ha hb h0 (sm.mg _) eb mk bl (uj d1) hy (A4 hn (by rw[DS];exact CJ _ _))
 ·rw[if_neg k0]
  have ec:c=x:=Ep hc (FW (DH k0))
  rw[ec] at bl
  exact qz C hκ ua ub ha hb h0 (sm.mg _) eb m bl hx hy hn
theorem v7 (C:Cmp prog w A s O key U κ){a b:Array Az}{st st':AS}(hκ:kindOf st=κ)(ua:∀p∈a.toList,U p)(ub:∀p∈b.toList,U p)
  (ha:a.toList.Pairwise (Le key)) (hb:b.toList.Pairwise (Le key)) (h0:∀p q,b[0]? = some p->q∈a.toList->Le key p q)
  {p:Array Az} {x y ac bc n mg:Nat} (sm:Sm st st') (m:MV key a b p x y) (hx:1<=x) (hy:2<=y) (hn:n<=p.size):wpS (AM prog w) A E s (if mg>1 then rQ a b x y p ac bc (mg-1) else rQ a b x y p ac bc mg) (HiQ key a b st n) st':=by
 split
 ·exact qA C hκ ua ub ha hb h0 (mg-1) sm m hx hy hn
 ·exact qA C hκ ua ub ha hb h0 mg sm m hx hy hn
abbrev HiD:=Option (Array Az)×Nat×Nat×Array Az×Nat×Nat
abbrev HiE:=Option (Array Az)×Nat×Nat×Array Az×Nat
def uo (a b:Array Az)(mg:Nat)(c:HiD):StateT AS Sem (ForInStep HiD):=do
  let u ← elem' b (c.2.2.1-1)
  let v ← elem' a (c.2.1-1)
  let __x ← lt' u v
  match __x with
  | some aw =>
    if aw=true then do
      let z ← elem' a (c.2.1-1)
      if (c.2.1-1 == 0)=true then pure (.done (some (a.extract 0 (c.2.1-1)++b.extract 0 c.2.2.1++(c.2.2.2.1.push z).reverse),c.2.1-1,c.2.2.1,c.2.2.2.1.push z,c.2.2.2.2.1+1,0))
      else if c.2.2.2.2.1+1≥mg then pure (.done (none,c.2.1-1,c.2.2.1,c.2.2.2.1.push z,c.2.2.2.2.1+1,0))
      else pure (.yield (none,c.2.1-1,c.2.2.1,c.2.2.2.1.push z,c.2.2.2.2.1+1,0))
    else do
      let z ← elem' b (c.2.2.1-1)
      if (c.2.2.1-1 == 1)=true then pure (.done (some (b.extract 0 (c.2.2.1-1)++a.extract 0 c.2.1++(c.2.2.2.1.push z).reverse),c.2.1,c.2.2.1-1,c.2.2.2.1.push z,0,c.2.2.2.2.2+1))
      else if c.2.2.2.2.2+1≥mg then pure (.done (none,c.2.1,c.2.2.1-1,c.2.2.2.1.push z,0,c.2.2.2.2.2+1))
      else pure (.yield (none,c.2.1,c.2.2.1-1,c.2.2.2.1.push z,0,c.2.2.2.2.2+1))
  | _=>pure (.done (some (a.extract 0 c.2.1++b.extract 0 c.2.2.1++c.2.2.2.1.reverse),c.2.1,c.2.2.1,c.2.2.2.1,c.2.2.2.2.1,c.2.2.2.2.2))
def yq (a b:Array Az)(c:HiC):StateT AS Sem (ForInStep HiC) :=
 if c.2.2.2.2.1>1 then rQ a b c.2.1 c.2.2.1 c.2.2.2.1 c.2.2.2.2.2.1 c.2.2.2.2.2.2 (c.2.2.2.2.1-1) else rQ a b c.2.1 c.2.2.1 c.2.2.2.1 c.2.2.2.2.2.1 c.2.2.2.2.2.2 c.2.2.2.2.1
def pf (a b:Array Az)(c:HiE):StateT AS Sem (ForInStep HiE):=do
  let d ← forIn [0:a.size+b.size] ((none,c.2.1,c.2.2.1,c.2.2.2.1,0,0):HiD) λ_ d=>uo a b c.2.2.2.2 d
  match d.1 with
  | some r=>pure (.done (some r,d.2.1,d.2.2.1,d.2.2.2.1,c.2.2.2.2))
  | none=>do
    rule "list.sort.gallop"
    let e ← forIn [0:a.size+b.size] ((none,d.2.1,d.2.2.1,d.2.2.2.1,c.2.2.2.2+1,d.2.2.2.2.1,d.2.2.2.2.2):HiC) λ_ e=>yq a b e
    match e.1 with
    | some r=>pure (.done (some r,e.2.1,e.2.2.1,e.2.2.2.1,e.2.2.2.2.1))
    | none=>do
      modify (λs=>SortSt.mk' (kindOf s) (AH s) (AO s) (e.2.2.2.2.1+1) (failedOf s))
      pure (.yield (none,e.2.1,e.2.2.1,e.2.2.2.1,e.2.2.2.2.1+1))
theorem v8 (a b:Array Az):mHi a b=(do
    rule "list.sort.merge-hi"
    let z ← elem' a (a.size-1)
    if (a.size-1 == 0)=true then pure (a.extract 0 (a.size-1)++b.extract 0 b.size++(#[z]:Array Az).reverse)
    else if (b.size == 1)=true then pure (b.extract 0 b.size++a.extract 0 (a.size-1)++(#[z]:Array Az).reverse)
    else do
      let g ← get
      let c ← forIn [0:a.size+b.size] ((none,a.size-1,b.size, #[z],gallopOf g):HiE) λ_ c=>pf a b c
      match c.1 with
      | some r=>pure r
      | none=>unsupported "internal:list.sort.merge-bound"):=by
  kernel_rfl
def HdI (key:Az->O.α)(a b:Array Az)(st:AS)(n:Nat)(c:HiD)(st':AS):Prop:=Sm st st'/\∃x y o' ac bc,c=(none,x,y,o',ac,bc)/\MV key a b o' x y/\1<=x/\2<=y/\n<=o'.size
def HdQ (key:Az->O.α)(a b:Array Az)(st:AS)(n:Nat)(c:HiD)(st':AS):Prop:=Sm st st'/\((∃r x y o ac bc,c=(some r,x,y,o,ac,bc)/\dj key a b r)\/∃x y o' ac bc,c=(none,x,y,o',ac,bc)/\MV key a b o' x y/\1<=x/\2<=y/\n<=o'.size)
theorem uq (C:Cmp prog w A s O key U κ){a b:Array Az}{st st':AS}(hκ:kindOf st=κ)(ua:∀p∈a.toList,U p)(ub:∀p∈b.toList,U p)
  (ha:a.toList.Pairwise (Le key)) (hb:b.toList.Pairwise (Le key)) (h0:∀p q,b[0]? = some p->q∈a.toList->Le key p q)
  {mg n m':Nat} {c:HiD} (I:HdI key a b st n c st') (hm:m'<=n+1) {Q:ForInStep HiD->AS->Prop} (h:∀r st',(match r with | .done c'=>HdQ key a b st (n+1) c' st' | .yield c'=>HdI key a b st m' c' st')->Q r st'):wpS (AM prog w) A E s (uo a b mg c) Q st':=by
 obtain ⟨sm2,x,y,o',ac,bc,rfl,m,hx,hy,hz⟩:=I
 unfold uo
 have bx:=m.hx
 have by':=m.hy
 obtain ⟨za,ea⟩:=aV (show x-1<a.size by omega)
 obtain ⟨zb,eb⟩:=aV (show y-1<b.size by omega)
 refine Av (aT eb (Av (aT ea (Av (C.lt _ st' zb za _ (sm2.k.trans hκ) (ub _ (bF eb)) (ua _ (bF ea)) ?_)))))
 dsimp only
 have sz:∀z,n+1<=(o'.push z).size:=λz=>by rw[Dv];exact Hl hz
 cases hlt:O.blt (key zb) (key za) with
 | true =>
  rw[if_pos rfl]
  refine Av (aT ea ?_)
  have m1:=m.iP hx ea ha λt ht=>by
   obtain ⟨n,hn,e⟩:=aW ht
   exact A6 (aI hb e (aG eb) (CN hn)) (BM hlt)
  by_cases c3:(x-1 == 0)=true
  ·rw[if_pos c3]
   exact AB (h _ _ ⟨sm2,.inl ⟨_,_,_,_,_,_,rfl,m1.rN hb (beq_iff_eq.mp c3)⟩⟩)
  ·rw[if_neg c3]
   have c3':=uj c3
   split
   ·exact AB (h _ _ ⟨sm2,.inr ⟨_,_,_,_,_,rfl,m1,c3',hy,sz _⟩⟩)
   ·exact AB (h _ _ ⟨sm2,_,_,_,_,_,rfl,m1,c3',hy,A4 hm (sz _)⟩)
 | false =>
  rw[if_neg Ak]
  refine Av (aT eb ?_)
  have m1:=m.kY (G2 hy) eb hb λt ht=>by
   obtain ⟨n,hn,e⟩:=aW ht
   exact A6 (aI ha e (aG ea) (CN hn)) (show O.kle (key za) (key zb) from hlt)
  by_cases c3:(y-1 == 1)=true
  ·rw[if_pos c3]
   exact AB (h _ _ ⟨sm2,.inl ⟨_,_,_,_,_,_,rfl,m1.first ha hb (beq_iff_eq.mp c3) h0⟩⟩)
  ·rw[if_neg c3]
   have c3':=v5 (CN hy) c3
   split
   ·exact AB (h _ _ ⟨sm2,.inr ⟨_,_,_,_,_,rfl,m1,hx,c3',sz _⟩⟩)
   ·exact AB (h _ _ ⟨sm2,_,_,_,_,_,rfl,m1,hx,c3',A4 hm (sz _)⟩)
def HeI (key:Az->O.α)(a b:Array Az)(st:AS)(n:Nat)(c:HiE)(st':AS):Prop:=Sm st st'/\∃x y o mg,c=(none,x,y,o,mg)/\MV key a b o x y/\1<=x/\2<=y/\n+1<=o.size
def HeQ (key:Az->O.α)(a b:Array Az)(st:AS)(c:HiE)(st':AS):Prop:=Sm st st'/\((∃r x y o mg,c=(some r,x,y,o,mg)/\dj key a b r)\/∃x y o mg,c=(none,x,y,o,mg)/\MV key a b o x y/\1<=x/\2<=y/\a.size+b.size+1<=o.size)
theorem rR (C:Cmp prog w A s O key U κ){a b:Array Az}{st st':AS}(hκ:kindOf st=κ)(ua:∀p∈a.toList,U p)(ub:∀p∈b.toList,U p)
  (ha:a.toList.Pairwise (Le key)) (hb:b.toList.Pairwise (Le key)) (h0:∀p q,b[0]? = some p->q∈a.toList->Le key p q) (na:0<a.size)
  {n:Nat} {c:HiE} (I:HeI key a b st n c st'):wpS (AM prog w) A E s (pf a b c) (λr st'=>match r with | .done c'=>HeQ key a b st c' st' | .yield c'=>HeI key a b st (n+1) c' st') st':=by
 obtain ⟨sm1,x,y,o,mg,rfl,m,hx,hy,hz⟩:=I
 unfold pf
 have q1:1<=a.size+b.size:=A4 na (CJ _ _)
 refine Av (CB (BJ (I:=λj c st'=>HdI key a b st (o.size+min j 1) c st') (Q:=HdQ key a b st (o.size+1)) (λj c st2 _ hj J=>uq (n:=o.size+min j 1) (m':=o.size+min (j+1) 1) C hκ ua ub ha hb h0 J (by lia) λr st' k =>?_) (λc st' J =>?_) ⟨sm1,x,y,o,0,0,rfl,m,hx,hy,Ag _⟩) ?_)
 ·cases r with
  | done c'=>exact k.imp id λz=>z.imp id λ⟨x,y,o',ac,bc,e,m,hx,hy,hz⟩=>⟨x,y,o',ac,bc,e,m,hx,hy,by lia⟩
  | yield c'=>exact k
 ·obtain ⟨sm,x,y,o',ac,bc,e,m,hx,hy,hz⟩:=J
  exact ⟨sm,.inr ⟨x,y,o',ac,bc,e,m,hx,hy,by lia⟩⟩
 rintro c st2 ⟨sm2,⟨r,x,y,o',ac,bc,rfl,fr⟩ | ⟨x,y,o',ac,bc,rfl,m,hx,hy,hz2⟩⟩
 ·exact AB ⟨sm2,.inl ⟨_,_,_,_,_,rfl,fr⟩⟩
 dsimp only
 refine Av (FC (Dh ⟨rfl,?_⟩))
 refine Av (CB (BJ (I:=λ_ c st'=>HiQ key a b st o'.size (.yield c) st') (Q:=λc st'=>HiQ key a b st o'.size (.done c) st') (λj c st3 _ hj J =>?_) (λc st' J=>⟨J.1,.inr J.2⟩) ⟨sm2,x,y,o',_,ac,bc,rfl,m,hx,hy,Ag _⟩) ?_)
 ·obtain ⟨sm3,x,y,p,mg,ac,bc,rfl,m,hx,hy,hz3⟩:=J
  refine CB (v7 C hκ ua ub ha hb h0 sm3 m hx hy hz3) ?_
  intro r st' h
  cases r <;> exact h
 rintro c st3 ⟨sm3,⟨r,x,y,p,mg,ac,bc,rfl,fr⟩ | ⟨x,y,p,mg,ac,bc,rfl,m,hx,hy,hz3⟩⟩
 ·exact AB ⟨sm3,.inl ⟨_,_,_,_,_,rfl,fr⟩⟩
 ·dsimp only
  exact Av (CY (AB ⟨sm3.mg _,x,y,p,_,rfl,m,hx,hy,by lia⟩))
theorem yr (C:Cmp prog w A s O key U κ){a b:Array Az}{st:AS}{Q:Array Az->AS->Prop}(hκ:kindOf st=κ)(ua:∀p∈a.toList,U p)(ub:∀p∈b.toList,U p)
  (ha:a.toList.Pairwise (Le key)) (hb:b.toList.Pairwise (Le key)) (na:0<a.size) (nb:0<b.size) (h0:∀p q,b[0]? = some p->q∈a.toList->Le key p q) (hl:∀p q,p∈b.toList->a[a.size-1]? = some q->Le key p q)
  (h:∀r st',Sm st st'->dj key a b r->Q r st'):wpS (AM prog w) A E s (mHi a b) Q st:=by
 rw[v8]
 refine Av (FC (Dh ⟨rfl,?_⟩))
 obtain ⟨a0,ea0⟩:=aV (EN na)
 have m0:MV key a b #[] a.size b.size:=by
  refine ⟨Ag _,Ag _,?_,List.Pairwise.nil,λp _ q hq=>by cases hq⟩
  rw[AY (by rw[Ai];exact Ag _),AY (by rw[Ai];exact Ag _)]
  show (a.toList++b.toList++[]).Perm _
  rw[AU]
 have m1:MV key a b #[a0] (a.size-1) b.size:=m0.iP na ea0 ha λt ht=>hl t a0 (B6 ht) ea0
 refine Av (aT ea0 ?_)
 by_cases c1:(a.size-1 == 0)=true
 ·rw[if_pos c1]
  exact AB (h _ st (Sm.refl st) (m1.rN hb (beq_iff_eq.mp c1)))
 rw[if_neg c1]
 by_cases c2:(b.size == 1)=true
 ·rw[if_pos c2]
  exact AB (h _ st (Sm.refl st) (m1.first ha hb (beq_iff_eq.mp c2) h0))
 rw[if_neg c2]
 refine Av (Fj ?_)
 refine Av (CB (BJ (I:=λi c st'=>HeI key a b st i c st') (Q:=HeQ key a b st) (λi c st1 _ _ J=>CB (rR C hκ ua ub ha hb h0 na J) λr st' h=>by cases r <;> exact h) (λc st' J =>?_) ⟨Sm.refl st,_,_,_,_,rfl,m1,uj c1,v5 nb c2,Ag _⟩) ?_)
 ·obtain ⟨sm,x,y,o,mg,e,m,hx,hy,hz⟩:=J
  exact ⟨sm,.inr ⟨x,y,o,mg,e,m,hx,hy,by lia⟩⟩
 rintro c st' ⟨sm,⟨r,x,y,o,mg,rfl,fr⟩ | ⟨x,y,o,mg,rfl,m,hx,hy,hz⟩⟩
 ·exact AB (h r st' sm fr)
 ·have:=m.size
  lia
end
open PySem PyProof.Rows
theorem yt (i:Nat):mAt i=(do
    let s ← get
    let (some (sa,na,pw),some (sb,nb,_)):=((AO s)[i]?,(AO s)[i+1]?) | unsupported "internal:list.sort.pending"
    set (SortSt.mk' (kindOf s) (AH s) (((AO s).setIfInBounds i (sa,na+nb,pw)).eraseIdxIfInBounds (i+1)) (gallopOf s) (failedOf s))
    let some k ← gal false (← elem' (AH s) sb) (AH s) sa na 0 | return false
    let (sa,na):=(sa+k,na-k)
    if na == 0 then return true
    let some nb ← gal true (← elem' (AH s) (sa+na-1)) (AH s) sb nb (nb-1) | return false
    if nb == 0 then return true
    let x:=(AH s).extract sa sb
    let y:=(AH s).extract sb (sb+nb)
    let mm ← if na<=nb then mLo x y else mHi x y
    modify λs=>setArr s (mm.toList.zipIdx.foldl (λa (p,j)=>a.setIfInBounds (sa+j) p) (AH s))
    return (failedOf (← get)).isNone):=rfl
theorem gJ {α:Type}(p r:List α)(k:Nat):(p++r).drop (p.length+k)=r.drop k:=by
 rw[<- HG,Ff]
theorem ph {α:Type}(p r:List α)(k:Nat):(p++r)[p.length+k]? = r[k]? := by
 rw[A0 (by lia),DD]
theorem xv {α:Type}(p a r:List α){k:Nat}(h:k<a.length):(p++(a++r))[p.length+k]? = a[k]? := by
 rw[ph,AW h]
theorem written (l:List Az):∀(c n:Nat) (a:Array Az),c+n+l.length<=a.size->((l.zipIdx n).foldl (λ(a:Array Az) (pj:Az×Nat)=>a.setIfInBounds (c+pj.2) pj.1) a).toList=a.toList.take (c+n)++l++a.toList.drop (c+n+l.length):=by
 induction l with
 | nil=>intro c n a _;simp
 | cons z l ih =>
  intro c n a h
  rw[AR] at h
  rw[List.zipIdx_cons,FU,ih c (n+1) _ (by rw[Fm];lia)]
  have e:(a.setIfInBounds (c+n) z).toList=a.toList.set (c+n) z:=E4 ..
  rw[e]
  have lt:c+n<a.toList.length:=by rw[Ai];lia
  have t1:(a.toList.set (c+n) z).take (c+(n+1))=a.toList.take (c+n)++[z]:=by
   rw[show c+(n+1)=c+n+1 by lia,Bm,List.take_set_of_le (Ag _),Ct lt]
   rfl
  have t2:(a.toList.set (c+n) z).drop (c+(n+1)+l.length)=a.toList.drop (c+n+(l.length+1)):=by
   rw[List.drop_set_of_lt (by lia),show c+(n+1)+l.length=c+n+(l.length+1) by lia]
  rw[t1,t2,AR]
  simp
section
variable  {prog:Au}{w:AV}{A:Bd}{E:z9->Ac->Prop}{s:Ac}{O:E1}{key:Az->O.α}{U:Az->Prop}{κ:SortKind}
theorem yu (C:Cmp prog w A s O key U κ){i pw pw2:Nat}{st:AS}{Q:Bool->AS->Prop}{P X Y S:List Az}(hκ:kindOf st=κ)(hf:failedOf st=none)
    (ha:(AH st).toList=P++(X++(Y++S))) (hu:∀p∈(AH st).toList,U p) (h1:(AO st)[i]? = some (P.length,X.length,pw)) (h2:(AO st)[i+1]? = some (P.length+X.length,Y.length,pw2))
    (nx:0<X.length) (ny:0<Y.length) (sx:X.Pairwise (Le key)) (sy:Y.Pairwise (Le key))
    (h:∀st' M,M.Perm (X++Y)->M.Pairwise (Le key)->(AH st').toList=P++(M++S)->AO st'=((AO st).setIfInBounds i (P.length,X.length+Y.length,pw)).eraseIdxIfInBounds (i+1)->kindOf st'=κ -> failedOf st'=none->Q true st') :
    wpS (AM prog w) A E s (mAt i) Q st:=by
  rw[yt]
  refine Av (Fj ?_)
  rw[h1,h2]
  dsimp only
  refine Av (show wpS (AM prog w) A E s (modify λ_=>SortSt.mk' (kindOf st) (AH st) (((AO st).setIfInBounds i (P.length,X.length+Y.length,pw)).eraseIdxIfInBounds (i+1)) (gallopOf st) (failedOf st)) _ st from CY ?_)
  generalize hst1:SortSt.mk' (kindOf st) (AH st) (((AO st).setIfInBounds i (P.length,X.length+Y.length,pw)).eraseIdxIfInBounds (i+1)) (gallopOf st) (failedOf st)=st1
  have k1:kindOf st1=κ:=by rw[<- hst1];exact hκ
  have a1:AH st1=AH st:=by rw[<- hst1]
  have p1:AO st1=((AO st).setIfInBounds i (P.length,X.length+Y.length,pw)).eraseIdxIfInBounds (i+1):=by rw[<- hst1]
  have f1:failedOf st1=none:=by rw[<- hst1];exact hf
  have sz:(AH st).size=P.length+X.length+Y.length+S.length:=by
    rw[<- Ai,ha];simp only[Ae];lia
  have atX:∀j,j<X.length->(AH st)[P.length+j]? = X[j]? := λj hj=>by
    rw[<- Ap,ha,xv _ _ _ hj]
  have atY:∀j,j<Y.length->(AH st)[P.length+X.length+j]? = Y[j]? := λj hj=>by
    rw[<- Ap,ha, <- A1,show P.length+X.length+j=(P++X).length+j by rw[Ae],xv _ _ _ hj]
  have uX:∀p∈X,U p:=λp hp=>hu p (by rw[ha];simp[hp])
  have uY:∀p∈Y,U p:=λp hp=>hu p (by rw[ha];simp[hp])
  have xget:∀j,j<X.length->∃z,X[j]? = some z:=λj hj=>⟨X[j],by simp[hj]⟩
  have yget:∀j,j<Y.length->∃z,Y[j]? = some z:=λj hj=>⟨Y[j],by simp[hj]⟩
  obtain ⟨y0,ey0⟩:=yget 0 ny
  have plain:(∀p∈X,∀q∈Y,Le key p q)->Q true st1:=λhle=>h st1 (X++Y) (DV _) (BO.mpr ⟨sx,sy,hle⟩) (by rw[a1,ha,A1]) p1 k1 f1
  refine Av (aT (z:=y0) (by rw[show P.length+X.length=P.length+X.length+0 by lia,atY 0 ny];exact ey0) ?_)
  refine Av (yi C (λj=>(X[j]?).getD y0) k1 (uY _ (Aj ey0)) (λj hj =>?_) (λj hj =>?_) (λi j hij hj =>?_) nx λk hk g1 g2 =>?_)
  · obtain ⟨z,e⟩:=xget j hj
    rw[atX j hj,e];rfl
  · obtain ⟨z,e⟩:=xget j hj
    rw[e];exact uX _ (Aj e)
  · obtain ⟨z,e⟩:=xget i (by lia)
    obtain ⟨z',e'⟩:=xget j hj
    rw[e,e'];exact aI sx e e' hij
  dsimp only at g1 g2 ⊢
  have y0le:∀q∈Y,Le key y0 q:=λq hq=>by
    obtain ⟨n,e⟩:=Bb.mp hq
    exact aI sy ey0 e (A7 _)
  by_cases c1:(X.length-k == 0)=true
  · rw[if_pos c1]
    refine AB (plain λp hp q hq =>?_)
    obtain ⟨n,e⟩:=Bb.mp hp
    have hn:n<X.length:=(Af.mp e).1
    have z:=g1 n (by have:=beq_iff_eq.mp c1;lia)
    rw[e] at z
    exact A6 z (y0le q hq)
  rw[if_neg c1]
  have kx:k<X.length:=by have:X.length-k≠0:=λz=>c1 (beq_iff_eq.mpr z);lia
  obtain ⟨xl,exl⟩:=xget (X.length-1) (by lia)
  have xlle:∀p∈X,Le key p xl:=λp hp=>by
    obtain ⟨n,e⟩:=Bb.mp hp
    have hn:n<X.length:=(Af.mp e).1
    exact aI sx e exl (by lia)
  refine Av (aT (z:=xl) (by rw[show P.length+k+(X.length-k)-1=P.length+(X.length-1) by lia,atX _ (by lia)];exact exl) ?_)
  refine Av (yj C (λj=>(Y[j]?).getD xl) k1 (uX _ (Aj exl)) (λj hj =>?_) (λj hj =>?_) (λi j hij hj =>?_) (by lia) λm hm e1 e2 =>?_)
  · obtain ⟨z,e⟩:=yget j hj
    rw[atY j hj,e];rfl
  · obtain ⟨z,e⟩:=yget j hj
    rw[e];exact uY _ (Aj e)
  · obtain ⟨z,e⟩:=yget i (by lia)
    obtain ⟨z',e'⟩:=yget j hj
    rw[e,e'];exact aI sy e e' hij
  dsimp only at e1 e2 ⊢
  by_cases c2:(m == 0)=true
  · rw[if_pos c2]
    refine AB (plain λp hp q hq =>?_)
    obtain ⟨n,e⟩:=Bb.mp hq
    have hn:n<Y.length:=(Af.mp e).1
    have z:=e2 n (by have:=beq_iff_eq.mp c2;lia) hn
    rw[e] at z
    exact A6 (xlle p hp) z
  rw[if_neg c2]
  have m0:0<m:=by have:m≠0:=λz=>c2 (beq_iff_eq.mpr z);lia
  have ex:((AH st).extract (P.length+k) (P.length+X.length)).toList=X.drop k:=by
    rw[CM,B8,ha,gJ,EH (by lia)]
    rw[List.take_left' (by rw[Bk];lia)]
  have ey:((AH st).extract (P.length+X.length) (P.length+X.length+m)).toList=Y.take m:=by
    have e:=gJ (P++X) (Y++S) 0
    rw[Ae,Nat.add_zero,ED,A1] at e
    rw[CM,B8,ha,e,DD,EI hm]
  have sX:((AH st).extract (P.length+k) (P.length+X.length)).size=X.length-k:=by rw[<- Ai,ex,Bk]
  have sY:((AH st).extract (P.length+X.length) (P.length+X.length+m)).size=m:=by rw[<- Ai,ey,Bf];lia
  generalize (AH st).extract (P.length+k) (P.length+X.length)=xa at ex sX ⊢
  generalize (AH st).extract (P.length+X.length) (P.length+X.length+m)=ya at ey sY ⊢
  have xa0:∀q∈xa.toList,Le key y0 q:=λq hq=>by
    rw[ex] at hq
    obtain ⟨n,hn,e⟩:=aS hq
    have hn2:n<X.length:=(Af.mp e).1
    have z:=g2 n hn hn2
    rw[e] at z
    exact BM z
  have yaL:∀p∈ya.toList,Le key p xl:=λp hp=>by
    rw[ey] at hp
    obtain ⟨n,hn,e⟩:=aW hp
    have z:=e1 n hn
    rw[e] at z
    exact BM z
  have first:∀p q,ya[0]? = some p->q∈xa.toList->Le key p q:=λp q hp hq=>by
    rw[<- Ap,ey,Cn,if_pos m0,ey0] at hp
    cases hp
    exact xa0 q hq
  have lst:∀p q,p∈ya.toList->xa[xa.size-1]? = some q->Le key p q:=λp q hp hq=>by
    rw[<- Ap,ex,DI,sX,show k+(X.length-k-1)=X.length-1 by lia,exl] at hq
    cases hq
    exact yaL p hp
  have sxa:xa.toList.Pairwise (Le key):=by rw[ex];exact sx.sublist (BE _ _)
  have sya:ya.toList.Pairwise (Le key):=by rw[ey];exact sy.sublist (BL _ _)
  have uxa:∀p∈xa.toList,U p:=λp hp=>by rw[ex] at hp;exact uX p (B5 hp)
  have uya:∀p∈ya.toList,U p:=λp hp=>by rw[ey] at hp;exact uY p (B6 hp)
  have post:∀r st',Sm st1 st'->dj key xa ya r->wpS (AM prog w) A E s (do modify λs=>setArr s (r.toList.zipIdx.foldl (λa (p,j)=>a.setIfInBounds (P.length+k+j) p) (AH s));return (failedOf (← get)).isNone) Q st':=by
    rintro r st' sm ⟨fp,fs⟩
    refine Av (CY (Av (Fj (AB ?_))))
    have rl:r.toList.length=X.length-k+m:=by rw[fp.length_eq,Ae,Ai,Ai,sX,sY]
    have wr:=written r.toList (P.length+k) 0 (AH st') (by rw[sm.a,a1,sz,rl];lia)
    have e:(failedOf (setArr st' (r.toList.zipIdx.foldl (λa (p,j)=>a.setIfInBounds (P.length+k+j) p) (AH st')))).isNone=true:=by
      show (failedOf st').isNone=true
      rw[sm.f,f1];rfl
    rw[e]
    have t1:(P++(X++(Y++S))).take (P.length+k+0)=P++X.take k:=by
      rw[Nat.add_zero,List.take_append,AY (by lia),DD,EI (by lia)]
    have t2:(P++(X++(Y++S))).drop (P.length+k+0+r.toList.length)=Y.drop m++S:=by
      rw[rl,show P.length+k+0+(X.length-k+m)=P.length+(X.length+m) by lia,gJ,gJ,EH hm]
    have perm:(X.take k++(r.toList++Y.drop m)).Perm (X++Y):=by
      rw[ex,ey] at fp
      have q:(X.take k++(r.toList++Y.drop m)).Perm (X.take k++((X.drop k++Y.take m)++Y.drop m)):=Cf _ (Dd _ fp)
      have e3:X.take k++((X.drop k++Y.take m)++Y.drop m)=X++Y:=by
        rw[A1 (X.drop k),CD, <- A1,CD]
      rw[e3] at q
      exact q
    have inr:∀z∈r.toList,z∈X.drop k\/z∈Y.take m:=λz hz=>by
      have q:=fp.mem_iff.mp hz
      rw[ex,ey] at q
      exact As.mp q
    refine h _ (X.take k++(r.toList++Y.drop m)) perm ?_ ?_ ?_ (sm.k.trans k1) (sm.f.trans f1)
    · refine BO.mpr ⟨sx.sublist (BL _ _),BO.mpr ⟨fs,sy.sublist (BE _ _),λp hp q hq =>?_⟩,λp hp q hq =>?_⟩
      · obtain ⟨n,hn,en⟩:=aS hq
        have hn2:n<Y.length:=(Af.mp en).1
        rcases inr p hp with z | z
        · have g:=e2 n hn hn2
          rw[en] at g
          exact A6 (xlle p (B5 z)) g
        · obtain ⟨j,hj,ej⟩:=aW z
          exact aI sy ej en (by lia)
      · obtain ⟨n,hn,en⟩:=aW hp
        have g:=g1 n hn
        rw[en] at g
        rcases As.mp hq with z | z
        · rcases inr q z with z | z
          · obtain ⟨j,hj,ej⟩:=aS z
            exact aI sx en ej (by lia)
          · exact A6 g (y0le q (B6 z))
        · exact A6 g (y0le q (B5 z))
    · show (r.toList.zipIdx.foldl (λa (p,j)=>a.setIfInBounds (P.length+k+j) p) (AH st')).toList=_
      rw[wr,sm.a,a1,ha,t1,t2]
      simp only[A1]
    · show AO st'=_
      rw[sm.p,p1]
  by_cases c3:X.length-k<=m
  · rw[if_pos c3]
    exact Av (yo C k1 uxa uya sxa sya (by lia) (by lia) (λp q hp hq=>first p q hp (bF hq)) lst λr st' sm fr=>post r st' sm fr)
  · rw[if_neg c3]
    exact Av (yr C k1 uxa uya sxa sya (by lia) (by lia) first lst λr st' sm fr=>post r st' sm fr)
end
open PySem PyProof.Rows
theorem v9 (lo m:Nat):yg lo m=(do
    let mut n:=1
    for _ in [1:m] do
      let some sm ← ltAt' (lo+n) (lo+n-1)
        | return none
      if sm then break
      n:=n+1
    if n == m then return some n
    if n>1 then
      let some ro ← ltAt' lo (lo+n-1)
        | return none
      if ro then return some n
      reverseSlice' lo (lo+n)
    rule "list.sort.descending-run"
    n:=n+1
    let mut q:=0
    for _ in [n:m] do
      let some sm ← ltAt' (lo+n) (lo+n-1)
        | return none
      if sm then
        if q>0 then reverseSlice' (lo+n-(q+1)) (lo+n)
        q:=0
      else
        let some lg ← ltAt' (lo+n-1) (lo+n)
          | return none
        if lg then break
        q:=q+1
      n:=n+1
    if q>0 then reverseSlice' (lo+n-(q+1)) (lo+n)
    reverseSlice' lo (lo+n)
    for _ in [n:m] do
      let some sm ← ltAt' (lo+n) (lo+n-1)
        | return none
      if sm then break
      n:=n+1
    return some n):=rfl
theorem ur (lo n ok:Nat):ud lo n ok=(do
    for k in [max ok 1:n] do
      let mut l:=0;let mut r:=k
      for _ in [0:k] do
        if l≥r then break
        let m:=(l+r)/2
        let some le ← ltAt' (lo+k) (lo+m)
          | return false
        if le then r:=m else l:=m+1
      moveDown' (lo+k) (lo+l)
    return true):=rfl
section
variable  {O:E1}(key:Az->O.α)
def kk (xs:Array Az)(i:Nat):O.α:=key ((xs[i]?).getD (CZ,CZ))
def Up (xs:Array Az)(lo n:Nat):Prop:=∀i j,lo<=i->i<=j->j<lo+n->O.kle (kk key xs i) (kk key xs j)
def Down (xs:Array Az)(lo n:Nat):Prop:=∀i j,lo<=i->i<=j->j<lo+n->O.kle (kk key xs j) (kk key xs i)
variable  {key}
theorem gK {xs ys:Array Az}{i j:Nat}(h:xs[i]? = ys[j]?):kk key xs i=kk key ys j:=by unfold kk;rw[h]
theorem k7 {xs:Array Az}{i j:Nat}(hj:j<=xs.size)(k:Nat):kk key (mirror xs i j ((j-i)/2)) k=if i<=k/\k<j then kk key xs (i+j-1-k) else kk key xs k:=by
 have e:=Gu (i:=i) hj k
 by_cases h:i<=k/\k<j
 ·rw[if_pos h] at e ⊢;exact gK e
 ·rw[if_neg h] at e ⊢;exact gK e
theorem dW {xs:Array Az}{i j:Nat}(hj:j<=xs.size)(he:∀k,i<=k->k<j->kk key xs k=kk key xs (j-1))(k:Nat):kk key (mirror xs i j ((j-i)/2)) k=kk key xs k:=by
 rw[k7 hj]
 split
 ·rw[he _ (by omega) (by omega),he k (by omega) (by omega)]
 ·rfl
end
structure SA (lo:Nat)(st st':AS):Prop where
 perm:(AH st').Perm (AH st)
 pre:∀k,k<lo->(AH st')[k]? = (AH st)[k]?
 k:kindOf st'=kindOf st
 p:AO st'=AO st
 f:failedOf st'=failedOf st
theorem SA.refl (lo:Nat)(st:AS):SA lo st st:=⟨Array.Perm.refl _,λ_ _=>rfl,rfl,rfl,rfl⟩
theorem SA.size {lo:Nat}{st st':AS}(h:SA lo st st'):(AH st').size=(AH st).size:=h.perm.size_eq
theorem SA.mirror {lo:Nat}{st st':AS}(h:SA lo st st'){i j:Nat}(hi:lo<=i)(hj:j<=(AH st').size):SA lo st (setArr st' (mirror (AH st') i j ((j-i)/2))) :=
 ⟨(mirror_perm _ _ _ _).trans h.perm,λk hk=>by
  show (PyProof.Rows.mirror (AH st') i j ((j-i)/2))[k]? = _
  rw[Gu hj,if_neg (by lia)]
  exact h.pre k hk,h.k,h.p,h.f⟩
theorem SA.mem {lo:Nat}{st st':AS}(h:SA lo st st'){p:Az}(hp:p∈(AH st').toList):p∈(AH st).toList:=(E5.mp h.perm).mem_iff.mp hp
section
variable  {prog:Au}{w:AV}{A:Bd}{E:z9->Ac->Prop}{s:Ac}{O:E1}{key:Az->O.α}{U:Az->Prop}{κ:SortKind}
theorem fF (C:Cmp prog w A s O key U κ){st:AS}{i j:Nat}{Q:Option Bool->AS->Prop}(hκ:kindOf st=κ)(hu:∀p∈(AH st).toList,U p)(hi:i<(AH st).size)(hj:j<(AH st).size)
  (h:Q (some (O.blt (kk key (AH st) i) (kk key (AH st) j))) st):wpS (AM prog w) A E s (ltAt' i j) Q st:=by
 rw[ltAt'_eq]
 refine Av (Fj ?_)
 obtain ⟨x,ex⟩:=aV hi
 obtain ⟨y,ey⟩:=aV hj
 dsimp only
 refine Av (aT ex (Av (aT ey (C.lt _ st x y _ hκ (hu _ (bF ex)) (hu _ (bF ey)) ?_))))
 unfold kk at h
 rw[ex,ey] at h
 exact h
theorem wb (C:Cmp prog w A s O key U κ){st:AS}{lo m:Nat}{Q:Option Nat->AS->Prop}(hκ:kindOf st=κ)(hu:∀p∈(AH st).toList,U p)(hm:1<=m)(hz:lo+m=(AH st).size)
  (h:∀n st',1<=n->n<=m->SA lo st st'->Up key (AH st') lo n->Q (some n) st'):wpS (AM prog w) A E s (yg lo m) Q st:=by
 rw[v9]
 dsimp only
 refine Av (CB (BJ (I:=λx c st'=>st=st'/\c=(none,x)/\Up key (AH st) lo x)
  (Q:=λc st'=>st=st'/\∃n,c=(none,n)/\1<=n/\n<=m/\Up key (AH st) lo n/\(n<m->O.klt (kk key (AH st) (lo+n)) (kk key (AH st) (lo+n-1)))) ?step ?fin ⟨rfl,rfl,λi j h1 h2 h3=>by rw[show i=j by lia];exact Cm _⟩) ?post)
 case fin =>
  rintro c st' ⟨rfl,rfl,up⟩
  exact ⟨rfl,_,rfl,by lia,by lia,by rw[show max 1 m=m by lia] at up ⊢;exact up,by lia⟩
 case step =>
  rintro x c st' h1 h2 ⟨rfl,rfl,up⟩
  dsimp only
  refine Av (fF C hκ hu (by lia) (by lia) ?_)
  dsimp only
  cases hb:O.blt (kk key (AH st) (lo+x)) (kk key (AH st) (lo+x-1)) with
  | true =>
   rw[if_pos rfl]
   exact AB ⟨rfl,x,rfl,h1,by lia,up,λ_=>hb⟩
  | false =>
   rw[if_neg (by simp)]
   refine AB ⟨rfl,rfl,λi j k1 k2 k3 =>?_⟩
   by_cases hj:j=lo+x
   ·by_cases hi:i=j
    ·rw[hi];exact Cm _
    ·rw[hj]
     exact A6 (up i (lo+x-1) k1 (by lia) (by lia)) hb
   ·exact up i j k1 k2 (by lia)
 case post =>
  rintro c st' ⟨rfl,n,rfl,n1,n2,up,br⟩
  dsimp only
  by_cases c1:(n == m)=true
  ·rw[if_pos c1]
   exact AB (h n st n1 n2 (SA.refl _ _) up)
  rw[if_neg c1]
  have nm:n<m:=by have:n≠m:=λz=>c1 (beq_iff_eq.mpr z);lia
  have br:=br nm
  by_cases c2:n>1
  case' pos =>
   rw[if_pos c2]
   refine Av (fF C hκ hu (by lia) (by lia) ?_)
   dsimp only
   cases hro:O.blt (kk key (AH st) lo) (kk key (AH st) (lo+n-1))
   case' true =>
    rw[if_pos rfl]
    exact AB (h n st n1 n2 (SA.refl _ _) up)
   rw[if_neg (by simp)]
   have eqs:∀k,lo<=k->k<lo+n->kk key (AH st) k=kk key (AH st) (lo+n-1):=λk k1 k2 =>
    Gk (up k (lo+n-1) k1 (by lia) (by lia)) (A6 (show O.kle (kk key (AH st) (lo+n-1)) (kk key (AH st) lo) from hro) (up lo k (Ag _) k1 k2))
   rw[EL]
   refine Av (CY ?_)
   have sa:=(SA.refl lo st).mirror (i:=lo) (j:=lo+n) (Ag _) (by lia)
   have ke:=dW (key:=key) (xs:=AH st) (i:=lo) (j:=lo+n) (by lia) eqs
   have ka:∀k,kk key (AH (setArr st (mirror (AH st) lo (lo+n) ((lo+n-lo)/2)))) k=kk key (AH st) k:=ke
   generalize setArr st (mirror (AH st) lo (lo+n) ((lo+n-lo)/2))=st1 at sa ka ⊢
   clear ke
  case' neg =>
   rw[if_neg c2]
   have eqs:∀k,lo<=k->k<lo+n->kk key (AH st) k=kk key (AH st) (lo+n-1):=λk k1 k2=>by rw[show k=lo+n-1 by lia]
   obtain ⟨st1,e1⟩:∃st1,st1=st:=⟨_,rfl⟩
   have sa:SA lo st st1:=by rw[e1];exact SA.refl _ _
   have ka:∀k,kk key (AH st1) k=kk key (AH st) k:=λk=>by rw[e1]
   rw[<- e1]
   clear e1
  all_goals
   refine Av (FC (Dh ⟨rfl,?_⟩))
   have dn:Down key (AH st1) lo (n+1):=λi j k1 k2 k3=>by
    rw[ka,ka]
    by_cases hj:j=lo+n
    ·by_cases hi:i=j
     ·rw[hi];exact Cm _
     ·rw[hj,eqs i k1 (by lia)]
      exact BM br
    ·rw[eqs i k1 (by lia),eqs j (by lia) (by lia)]
     exact Cm _
   clear eqs up br ka
   refine Av (CB (BJ (I:=λx c st'=>∃q,c=(none,x,q)/\x<=m/\SA lo st st'/\Down key (AH st') lo x/\q+1<=x/\∀k,lo+x-(q+1)<=k->k<lo+x->kk key (AH st') k=kk key (AH st') (lo+x-1))
    (Q:=λc st'=>∃x q,c=(none,x,q)/\1<=x/\x<=m/\SA lo st st'/\Down key (AH st') lo x/\q+1<=x/\∀k,lo+x-(q+1)<=k->k<lo+x->kk key (AH st') k=kk key (AH st') (lo+x-1)) ?step ?fin
    ⟨0,rfl,by lia,sa,dn,by lia,λk k1 k2=>by rw[show k=lo+(n+1)-1 by lia]⟩) ?post)
   case fin =>
    rintro c st' ⟨q,rfl,xm,sa,dn,hq,he⟩
    exact ⟨_,q,rfl,by lia,xm,sa,dn,hq,he⟩
   case step =>
    rintro x c st2 h1 h2 ⟨q,rfl,xm,sa2,dn2,hq,he⟩
    dsimp only
    have sz:=sa2.size
    have u2:∀p∈(AH st2).toList,U p:=λp hp=>hu p (sa2.mem hp)
    refine Av (fF C (sa2.k.trans hκ) u2 (by lia) (by lia) ?_)
    dsimp only
    cases hb:O.blt (kk key (AH st2) (lo+x)) (kk key (AH st2) (lo+x-1)) with
    | true =>
     rw[if_pos rfl]
     have dn3:Down key (AH st2) lo (x+1):=λi j k1 k2 k3=>by
      by_cases hj:j=lo+x
      ·by_cases hi:i=j
       ·rw[hi];exact Cm _
       ·rw[hj];exact A6 (BM hb) (dn2 i (lo+x-1) k1 (by lia) (by lia))
      ·exact dn2 i j k1 k2 (by lia)
     by_cases q0:q>0
     ·rw[if_pos q0,EL]
      refine Av (CY (AB ?_))
      have ke:=dW (key:=key) (xs:=AH st2) (i:=lo+x-(q+1)) (j:=lo+x) (by lia) he
      refine ⟨0,rfl,by lia,sa2.mirror (by lia) (by lia),λi j k1 k2 k3 =>?_,by lia,λk k1 k2=>by rw[show k=lo+(x+1)-1 by lia]⟩
      show O.kle (kk key (mirror (AH st2) (lo+x-(q+1)) (lo+x) ((lo+x-(lo+x-(q+1)))/2)) j) (kk key (mirror (AH st2) (lo+x-(q+1)) (lo+x) ((lo+x-(lo+x-(q+1)))/2)) i)
      rw[ke,ke]
      exact dn3 i j k1 k2 k3
     ·rw[if_neg q0]
      exact AB ⟨0,rfl,by lia,sa2,dn3,by lia,λk k1 k2=>by rw[show k=lo+(x+1)-1 by lia]⟩
    | false =>
     rw[if_neg (by simp)]
     refine Av (fF C (sa2.k.trans hκ) u2 (by lia) (by lia) ?_)
     dsimp only
     cases hb2:O.blt (kk key (AH st2) (lo+x-1)) (kk key (AH st2) (lo+x)) with
     | true =>
      rw[if_pos rfl]
      exact AB ⟨x,q,rfl,by lia,xm,sa2,dn2,hq,he⟩
     | false =>
      rw[if_neg (by simp)]
      have eq:=Gk (show O.kle (kk key (AH st2) (lo+x)) (kk key (AH st2) (lo+x-1)) from hb2) hb
      refine AB ⟨q+1,rfl,by lia,sa2,λi j k1 k2 k3 =>?_,by lia,λk k1 k2 =>?_⟩
      ·by_cases hj:j=lo+x
       ·by_cases hi:i=j
        ·rw[hi];exact Cm _
        ·rw[hj,eq];exact dn2 i (lo+x-1) k1 (by lia) (by lia)
       ·exact dn2 i j k1 k2 (by lia)
      ·rw[show lo+(x+1)-1=lo+x by lia,eq]
       by_cases hk:k=lo+x
       ·rw[hk,eq]
       ·exact he k (by lia) (by lia)
   case post =>
    rintro c st2 ⟨x,q,rfl,x1,xm,sa2,dn2,hq,he⟩
    dsimp only
    have sz:=sa2.size
    by_cases q0:q>0
    case' pos =>
     rw[if_pos q0,EL]
     refine Av (CY ?_)
     have ke:=dW (key:=key) (xs:=AH st2) (i:=lo+x-(q+1)) (j:=lo+x) (by lia) he
     have sa3:=sa2.mirror (i:=lo+x-(q+1)) (j:=lo+x) (by lia) (by lia)
     have dn3:Down key (AH (setArr st2 (mirror (AH st2) (lo+x-(q+1)) (lo+x) ((lo+x-(lo+x-(q+1)))/2)))) lo x:=λi j k1 k2 k3=>by
      show O.kle (kk key (mirror (AH st2) (lo+x-(q+1)) (lo+x) ((lo+x-(lo+x-(q+1)))/2)) j) (kk key (mirror (AH st2) (lo+x-(q+1)) (lo+x) ((lo+x-(lo+x-(q+1)))/2)) i)
      rw[ke,ke]
      exact dn2 i j k1 k2 k3
     generalize setArr st2 (mirror (AH st2) (lo+x-(q+1)) (lo+x) ((lo+x-(lo+x-(q+1)))/2))=st3 at sa3 dn3 ⊢
     clear ke
    case' neg =>
     rw[if_neg q0]
     obtain ⟨st3,e3⟩:∃st3,st3=st2:=⟨_,rfl⟩
     have sa3:SA lo st st3:=by rw[e3];exact sa2
     have dn3:Down key (AH st3) lo x:=by rw[e3];exact dn2
     rw[<- e3]
     clear e3
    all_goals
     rw[EL]
     refine Av (CY ?_)
     have sz3:=sa3.size
     have sa4:=sa3.mirror (i:=lo) (j:=lo+x) (Ag _) (by lia)
     have km:=k7 (key:=key) (xs:=AH st3) (i:=lo) (j:=lo+x) (by lia)
     have up4:Up key (AH (setArr st3 (mirror (AH st3) lo (lo+x) ((lo+x-lo)/2)))) lo x:=λi j k1 k2 k3=>by
      show O.kle (kk key (mirror (AH st3) lo (lo+x) ((lo+x-lo)/2)) i) (kk key (mirror (AH st3) lo (lo+x) ((lo+x-lo)/2)) j)
      rw[km,km,if_pos ⟨by lia,by lia⟩,if_pos ⟨by lia,by lia⟩]
      exact dn3 _ _ (by lia) (by lia) (by lia)
     generalize setArr st3 (mirror (AH st3) lo (lo+x) ((lo+x-lo)/2))=st4 at sa4 up4 ⊢
     clear km
     have u4:∀p∈(AH st4).toList,U p:=λp hp=>hu p (sa4.mem hp)
     have sz4:=sa4.size
     refine Av (CB (BJ (I:=λz c st'=>st4=st'/\c=(none,z)/\z<=m/\Up key (AH st4) lo z)
      (Q:=λc st'=>st4=st'/\∃z,c=(none,z)/\1<=z/\z<=m/\Up key (AH st4) lo z) ?step ?fin ⟨rfl,rfl,xm,up4⟩) ?post)
     case fin =>
      rintro c st' ⟨rfl,rfl,zm,up⟩
      exact ⟨rfl,_,rfl,by lia,zm,up⟩
     case post =>
      rintro c st' ⟨rfl,z,rfl,z1,zm,up⟩
      exact AB (h z st4 z1 zm sa4 up)
     case step =>
      rintro z c st' h1 h2 ⟨rfl,rfl,zm,up⟩
      dsimp only
      refine Av (fF C (sa4.k.trans hκ) u4 (by lia) (by lia) ?_)
      dsimp only
      cases hb:O.blt (kk key (AH st4) (lo+z)) (kk key (AH st4) (lo+z-1)) with
      | true =>
       rw[if_pos rfl]
       exact AB ⟨rfl,z,rfl,by lia,zm,up⟩
      | false =>
       rw[if_neg (by simp)]
       refine AB ⟨rfl,rfl,by lia,λi j k1 k2 k3 =>?_⟩
       by_cases hj:j=lo+z
       ·by_cases hi:i=j
        ·rw[hi];exact Cm _
        ·rw[hj];exact A6 (up i (lo+z-1) k1 (by lia) (by lia)) hb
       ·exact up i j k1 k2 (by lia)
theorem k8 {xs:Array Az}{src d:Nat}(hs:src<xs.size)(hd:d<=src)(k:Nat) :
  kk key (bubble xs src d) k=if k=src-d then kk key xs src else if src-d<k/\k<=src then kk key xs (k-1) else kk key xs k:=by
 have e:=getElem?_bubble hs d hd k
 by_cases h1:k=src-d
 ·rw[if_pos h1] at e ⊢;exact gK e
 ·rw[if_neg h1] at e ⊢
  by_cases h2:src-d<k/\k<=src
  ·rw[if_pos h2] at e ⊢;exact gK e
  ·rw[if_neg h2] at e ⊢;exact gK e
theorem SA.bubble {lo:Nat}{st st':AS}(h:SA lo st st'){src d:Nat}(hs:src<(AH st').size)(hd:lo+d<=src):SA lo st (setArr st' (bubble (AH st') src d)) :=
 ⟨(bubble_perm _ _ _).trans h.perm,λk hk=>by
  show (PyProof.Rows.bubble (AH st') src d)[k]? = _
  rw[getElem?_bubble hs d (by lia),if_neg (by lia),if_neg (by lia)]
  exact h.pre k hk,h.k,h.p,h.f⟩
theorem uv (C:Cmp prog w A s O key U κ){st:AS}{lo n ok:Nat}{Q:Bool->AS->Prop}(hκ:kindOf st=κ)(hu:∀p∈(AH st).toList,U p)(hn:lo+n<=(AH st).size)(hok:ok<=n)(up:Up key (AH st) lo ok)
  (h:∀st',SA lo st st'->Up key (AH st') lo n->Q true st'):wpS (AM prog w) A E s (ud lo n ok) Q st:=by
 rw[ur]
 dsimp only
 refine Av (CB (BJ (I:=λx c st'=>c=(none,())/\SA lo st st'/\Up key (AH st') lo (min x n)) (Q:=λc st'=>c=(none,())/\SA lo st st'/\Up key (AH st') lo n) ?step ?fin ⟨rfl,SA.refl _ _,λi j k1 k2 k3 =>?_⟩) ?post)
 case post =>
  rintro c st' ⟨rfl,sa,up⟩
  exact AB (h st' sa up)
 case fin =>
  rintro c st' ⟨rfl,sa,up⟩
  refine ⟨rfl,sa,?_⟩
  rw[show min (max (max ok 1) n) n=n by lia] at up
  exact up
 case step =>
  rintro k c st1 h1 h2 ⟨rfl,sa1,up1⟩
  rw[show min k n=k by lia] at up1
  have sz:=sa1.size
  have u1:∀p∈(AH st1).toList,U p:=λp hp=>hu p (sa1.mem hp)
  refine Av (CB (BJ (I:=λx c st'=>st1=st'/\∃l r,c=(none,l,r)/\l<=r/\r<=k/\r-l<=k-x/\(∀i,i<l->O.kle (kk key (AH st1) (lo+i)) (kk key (AH st1) (lo+k)))/\(∀i,r<=i->i<k->O.klt (kk key (AH st1) (lo+k)) (kk key (AH st1) (lo+i))))
   (Q:=λc st'=>st1=st'/\∃l r,c=(none,l,r)/\l<=k/\(∀i,i<l->O.kle (kk key (AH st1) (lo+i)) (kk key (AH st1) (lo+k)))/\(∀i,l<=i->i<k->O.klt (kk key (AH st1) (lo+k)) (kk key (AH st1) (lo+i)))) ?istep ?ifin ⟨rfl,0,k,rfl,by lia,by lia,by lia,λi hi=>by lia,λi a1 a2=>by lia⟩) ?ipost)
  case ifin =>
   rintro c st' ⟨rfl,l,r,rfl,b1,b2,b3,b4,b5⟩
   have e:l=r:=by lia
   subst e
   exact ⟨rfl,l,l,rfl,b2,b4,b5⟩
  case istep =>
   rintro x c st' _ hx ⟨rfl,l,r,rfl,b1,b2,b3,b4,b5⟩
   dsimp only
   by_cases hge:l≥r
   ·rw[if_pos hge]
    have e:l=r:=by lia
    subst e
    exact AB ⟨rfl,l,l,rfl,b2,b4,b5⟩
   ·rw[if_neg hge]
    refine Av (fF C (sa1.k.trans hκ) u1 (by lia) (by lia) ?_)
    dsimp only
    cases hb:O.blt (kk key (AH st1) (lo+k)) (kk key (AH st1) (lo+(l+r)/2)) with
    | true =>
     rw[if_pos rfl]
     exact AB ⟨rfl,l,(l+r)/2,rfl,by lia,by lia,by lia,b4,λi a1 a2=>KeyOrd.klt_of_klt_of_kle hb (up1 _ _ (by lia) (by lia) (by lia))⟩
    | false =>
     rw[if_neg (by simp)]
     exact AB ⟨rfl,(l+r)/2+1,r,rfl,by lia,by lia,by lia,λi a1=>A6 (up1 (lo+i) (lo+(l+r)/2) (by lia) (by lia) (by lia)) hb,b5⟩
  case ipost =>
   rintro c st' ⟨rfl,l,r,rfl,b2,b4,b5⟩
   dsimp only
   rw[moveDown'_eq]
   have e:lo+k-(lo+l)=k-l:=by lia
   refine Av (CY (AB ⟨rfl,?_,?_⟩))
   ·rw[e]
    exact sa1.bubble (by lia) (by lia)
   ·rw[show min (k+1) n=k+1 by lia]
    intro i j k1 k2 k3
    show O.kle (kk key (bubble (AH st1) (lo+k) (lo+k-(lo+l))) i) (kk key (bubble (AH st1) (lo+k) (lo+k-(lo+l))) j)
    have lt:lo+k<(AH st1).size:=by lia
    rw[e,k8 lt (by lia),k8 lt (by lia),show lo+k-(k-l)=lo+l by lia]
    have b4':∀z,lo<=z->z<lo+l->O.kle (kk key (AH st1) z) (kk key (AH st1) (lo+k)):=λz z1 z2=>by
     have:=b4 (z-lo) (by lia)
     rw[show lo+(z-lo)=z by lia] at this
     exact this
    have b5':∀z,lo+l<=z->z<lo+k->O.kle (kk key (AH st1) (lo+k)) (kk key (AH st1) z):=λz z1 z2=>by
     have:=b5 (z-lo) (by lia) (by lia)
     rw[show lo+(z-lo)=z by lia] at this
     exact BM this
    repeat' split
    all_goals first
     | (exfalso;lia)
     | exact Cm _
     | exact b4' _ (by lia) (by lia)
     | exact b5' _ (by lia) (by lia)
     | exact up1 _ _ (by lia) (by lia) (by lia)
 ·by_cases h1:ok=0
  ·rw[show i=j by lia];exact Cm _
  ·exact up i j k1 k2 (by lia)
end
open PySem PyProof.Rows
def pwr:Nat->Nat->Nat->Nat->Nat:=sortPriv% PySem.Builtin.power
def mrn:Nat->Nat->Nat->Nat:=sortPriv% PySem.Builtin.minRun
theorem uw:xu=(do
    let sz:=(AH (← get)).size
    let mr:=mrn sz sz 0
    let mut lo:=0
    for _ in [0:sz] do
      if lo≥sz then break
      let some fd ← yg lo (sz-lo)
        | return
      let mut n:=fd
      if n<mr then
        rule "list.sort.binary-insertion"
        let fo:=min (sz-lo) mr
        if !(← ud lo fo n) then return
        n:=fo
      if let some (s1,n1,_):=(AO (← get)).back? then
        let pw:=pwr sz (2*s1+n1) (2*s1+n1+n1+n) sz
        for _ in [0:sz] do
          let p:=AO (← get)
          let some (_,_,old):=(if p.size>1 then p[p.size-2]? else none)
            | break
          if old<=pw then break
          if !(← mAt (p.size-2)) then return
        modify λs=>SortSt.mk' (kindOf s) (AH s) ((AO s).modify ((AO s).size-1) λ(st,len,_)=>(st,len,pw)) (gallopOf s) (failedOf s)
      modify λs=>SortSt.mk' (kindOf s) (AH s) ((AO s).push (lo,n,0)) (gallopOf s) (failedOf s)
      lo:=lo+n
    for _ in [0:sz] do
      let p:=AO (← get)
      if p.size<=1 then break
      let i:=p.size-2
      let bf:=if i>0 then p[i-1]?.map (·.2.1) else none
      let i:=if bf.any (· < (p[i+1]?.elim 0 (·.2.1))) then i-1 else i
      if !(← mAt i) then return):=rfl
def Mt:Nat->List (List Az)->List (Nat×Nat×Nat)->Prop
 | _,[],[]=>True
 | off,r :: rs,p :: ps=>p.1=off/\p.2.1=r.length/\Mt (off+r.length) rs ps
 | _,_,_=>False
theorem Mt.length:∀{off:Nat} {rs:List (List Az)} {ps:List (Nat×Nat×Nat)},Mt off rs ps->ps.length=rs.length
 | _,[],[],_=>rfl
 | _,_ :: _,_ :: _,h=>by rw[AR,AR,Mt.length h.2.2]
theorem Mt.append:∀{off:Nat} {rs ts:List (List Az)} {ps us:List (Nat×Nat×Nat)},Mt off rs ps->Mt (off+rs.flatten.length) ts us->Mt off (rs++ts) (ps++us)
 | _,[],_,[],_,_,h=>by simpa using h
 | off,r :: rs,ts,p :: ps,us,h,h'=>by
  refine ⟨h.1,h.2.1,Mt.append h.2.2 ?_⟩
  rw[Ce,Ae, <- HU] at h'
  exact h'
theorem Mt.split:∀{off:Nat} {rs:List (List Az)} {ps:List (Nat×Nat×Nat)} (i:Nat),Mt off rs ps->i+1<ps.length →
  ∃R1 X Y R2 L1 w1 w2 L2,rs=R1++X :: Y :: R2/\ps=L1++(off+R1.flatten.length,X.length,w1) :: (off+R1.flatten.length+X.length,Y.length,w2) :: L2/\L1.length=i/\Mt off R1 L1/\Mt (off+R1.flatten.length+X.length+Y.length) R2 L2
 | off,r :: r2 :: rs,p :: p2 :: ps,0,h,_=>by
  obtain ⟨a,b,w1⟩:=p
  obtain ⟨c,d,w2⟩:=p2
  obtain ⟨h1,h2,h3,h4,h5⟩:=h
  dsimp only at h1 h2 h3 h4
  subst h1 h2 h3 h4
  exact ⟨[],r,r2,rs,[],w1,w2,ps,rfl,rfl,rfl,trivial,h5⟩
 | off,r :: rs,p :: ps,i+1,h,hl=>by
  rw[AR] at hl
  obtain ⟨R1,X,Y,R2,L1,w1,w2,L2,e1,e2,e3,m1,m2⟩:=Mt.split i h.2.2 (by lia)
  have ea:off+(r :: R1).flatten.length=off+r.length+R1.flatten.length:=by rw[Ce,Ae];lia
  refine ⟨r :: R1,X,Y,R2,p :: L1,w1,w2,L2,by rw[e1];rfl,?_,by rw[AR,e3],⟨h.1,h.2.1,m1⟩,?_⟩
  ·rw[ea,e2];rfl
  ·rw[ea];exact m2
 | off,[],[],i,_,hl=>by simp at hl
 | off,[_],[_],0,_,hl=>by simp at hl
theorem Mt.modify (f:Nat×Nat×Nat->Nat×Nat×Nat)(hf:∀p,(f p).1=p.1/\(f p).2.1=p.2.1):∀{off:Nat} {rs:List (List Az)} {ps:List (Nat×Nat×Nat)} (i:Nat),Mt off rs ps->Mt off rs (ps.modify i f)
 | _,[],[],i,_=>by cases i <;> exact trivial
 | off,r :: rs,p :: ps,0,h=>⟨(hf p).1.trans h.1,(hf p).2.trans h.2.1,h.2.2⟩
 | off,r :: rs,p :: ps,i+1,h=>⟨h.1,h.2.1,Mt.modify f hf i h.2.2⟩
theorem rS {α:Type}(l:List α)(a b c:α)(r:List α):((l++a :: b :: r).set l.length c).eraseIdx (l.length+1)=l++c :: r:=by
 induction l with
 | nil=>rfl
 | cons x l ih=>simp only[Hm,AR,List.set_cons_succ,Fw,ih]
section
variable  {O:E1}(key:Az->O.α)(U:Az->Prop)(κ:SortKind)
structure Rn (a0:List Az)(lo:Nat)(st:AS):Prop where
 ex:∃runs rest,(AH st).toList=runs.flatten++rest/\runs.flatten.length=lo/\(∀r∈runs,r.Pairwise (Le key)/\0<r.length)/\Mt 0 runs (AO st).toList
 perm:(AH st).toList.Perm a0
 k:kindOf st=κ
 f:failedOf st=none
end
section
variable  {prog:Au}{w:AV}{A:Bd}{E:z9->Ac->Prop}{s:Ac}{O:E1}{key:Az->O.α}{U:Az->Prop}{κ:SortKind}
theorem nN (C:Cmp prog w A s O key U κ){a0:List Az}{lo i:Nat}{st:AS}{Q:Bool->AS->Prop}(hu:∀p∈a0,U p)(R:Rn key κ a0 lo st)(hi:i+1<(AO st).size)
  (h:∀st',Rn key κ a0 lo st'->(AO st').size+1=(AO st).size->(AH st').toList.drop lo=(AH st).toList.drop lo->Q true st'):wpS (AM prog w) A E s (mAt i) Q st:=by
 obtain ⟨runs,rest,ea,el,er,em⟩:=R.ex
 obtain ⟨R1,X,Y,R2,L1,w1,w2,L2,e1,e2,e3,m1,m2⟩:=Mt.split i em (by rw[Ai];exact hi)
 subst e1
 rw[DN] at e2 m2
 have hx:=er X (by simp)
 have hy:=er Y (by simp)
 have ga:(AO st)[i]? = some (R1.flatten.length,X.length,w1):=by
  rw[<- Ap,e2, <- e3,show L1.length=L1.length+0 by lia,ph];rfl
 have gb:(AO st)[i+1]? = some (R1.flatten.length+X.length,Y.length,w2):=by
  rw[<- Ap,e2, <- e3,ph];rfl
 refine yu C (P:=R1.flatten) (X:=X) (Y:=Y) (S:=R2.flatten++rest) R.k R.f (by rw[ea];simp) (λp hp=>hu p (R.perm.mem_iff.mp hp)) ga gb hx.2 hy.2 hx.1 hy.1 λst' M pm sm ar pd kd fl =>?_
 have lm:M.length=X.length+Y.length:=by rw[pm.length_eq,Ae]
 have ep:(AO st').toList=L1++(R1.flatten.length,X.length+Y.length,w1) :: L2:=by
  rw[pd,Array.toList_eraseIdxIfInBounds,E4,e2, <- e3]
  exact rS _ _ _ _ _
 refine h st' ⟨⟨R1++M :: R2,rest,?_,?_,λr hr =>?_,?_⟩,?_,kd,fl⟩ ?_ ?_
 ·rw[ar];simp
 ·rw[<- el];simp[lm];lia
 ·rcases As.mp hr with q | q
  ·exact er r (by simp[q])
  ·rcases AJ.mp q with q | q
   ·rw[q];exact ⟨sm,by have:=hx.2;lia⟩
   ·exact er r (by simp[q])
 ·rw[ep]
  refine Mt.append m1 ⟨by rw[DN],lm.symm,?_⟩
  rw[DN,lm, <- HU]
  exact m2
 ·rw[ar]
  refine List.Perm.trans ?_ R.perm
  rw[ea,show (R1++X :: Y :: R2).flatten++rest=R1.flatten++((X++Y)++(R2.flatten++rest)) by simp]
  exact Cf _ (Dd _ pm)
 ·rw[<- Ai, <- Ai,ep,e2]
  simp only[Ae,AR]
  lia
 ·have l1:(R1++M :: R2).flatten.length=lo:=by rw[<- el];simp[lm];lia
  have q1:(AH st').toList=(R1++M :: R2).flatten++rest:=by rw[ar];simp
  rw[q1,ea, <- l1,Ff,l1, <- el,Ff]
theorem Rn.sa {a0:List Az}{lo:Nat}{st st':AS}(R:Rn key κ a0 lo st)(sa:SA lo st st'):Rn key κ a0 lo st':=by
 obtain ⟨runs,rest,ea,el,er,em⟩:=R.ex
 have et:(AH st').toList.take lo=runs.flatten:=by
  have e1:(AH st').toList.take lo=(AH st).toList.take lo:=by
   refine EA λi =>?_
   rw[Cn,Cn]
   split
   ·rw[Ap,Ap];exact sa.pre i (by assumption)
   ·rfl
  rw[e1,ea, <- el,List.take_left]
 refine ⟨⟨runs,(AH st').toList.drop lo,by rw[<- et,CD],el,er,by rw[sa.p];exact em⟩,(E5.mp sa.perm).trans R.perm,sa.k.trans R.k,sa.f.trans R.f⟩
theorem rT {xs:Array Az}{lo n:Nat}(h:Up key xs lo n):((xs.toList.drop lo).take n).Pairwise (Le key):=by
 refine Dp.mpr λi j hi hj hij =>?_
 have get:∀k (hk:k<((xs.toList.drop lo).take n).length),key ((xs.toList.drop lo).take n)[k]=kk key xs (lo+k)/\k<n:=λk hk=>by
  have hk':=hk
  rw[Bf] at hk'
  refine ⟨?_,by lia⟩
  have e:((xs.toList.drop lo).take n)[k]? = xs[lo+k]? := by
   rw[Cn,if_pos (by lia),DI,Ap]
  rw[Ab hk] at e
  unfold kk
  rw[<- e];rfl
 obtain ⟨e1,l1⟩:=get i hi
 obtain ⟨e2,l2⟩:=get j hj
 show O.kle (key _) (key _)
 rw[e1,e2]
 exact h _ _ (by lia) (by lia) (by lia)
theorem Rn.push {a0:List Az}{lo n:Nat}{st:AS}(R:Rn key κ a0 lo st)(hn:0<n)(hz:lo+n<=(AH st).size)(hs:(((AH st).toList.drop lo).take n).Pairwise (Le key)) :
  Rn key κ a0 (lo+n) (SortSt.mk' (kindOf st) (AH st) ((AO st).push (lo,n,0)) (gallopOf st) (failedOf st)):=by
 obtain ⟨runs,rest,ea,el,er,em⟩:=R.ex
 have ed:(AH st).toList.drop lo=rest:=by rw[ea, <- el,Ff]
 rw[ed] at hs
 have lr:n<=rest.length:=by
  have:=congrArg List.length ea
  rw[Ai,Ae,el] at this
  lia
 have lt:(rest.take n).length=n:=by rw[Bf];lia
 refine ⟨⟨runs++[rest.take n],rest.drop n,?_,?_,λr hr =>?_,?_⟩,R.perm,R.k,R.f⟩
 ·show (AH st).toList=_
  rw[ea];simp
 ·simp[lt,el]
 ·rcases As.mp hr with q | q
  ·exact er r q
  ·have e:r=rest.take n:=by simpa using q
   rw[e];exact ⟨hs,by lia⟩
 ·show Mt 0 _ ((AO st).push (lo,n,0)).toList
  rw[Cv]
  exact Mt.append em ⟨by show lo=_;lia,lt.symm,trivial⟩
theorem Rn.mod {a0:List Az}{lo:Nat}{st:AS}(R:Rn key κ a0 lo st)(i:Nat)(f:Nat×Nat×Nat->Nat×Nat×Nat)(hf:∀p,(f p).1=p.1/\(f p).2.1=p.2.1):Rn key κ a0 lo (SortSt.mk' (kindOf st) (AH st) ((AO st).modify i f) (gallopOf st) (failedOf st)):=by
 obtain ⟨runs,rest,ea,el,er,em⟩:=R.ex
 refine ⟨⟨runs,rest,ea,el,er,?_⟩,R.perm,R.k,R.f⟩
 show Mt 0 runs ((AO st).modify i f).toList
 rw[Array.toList_modify]
 exact Mt.modify f hf i em
theorem yv {c:Prop}[Decidable c]{n:Nat}(h:1<n):(if c then n-2-1 else n-2)+1<n:=by split <;> omega
theorem k9:∀{runs:List (List Az)},(∀r∈runs,0<r.length)->runs.length<=runs.flatten.length
 | [],_=>Ag _
 | r :: rs,h=>by
  have h1:=h r AN
  have h2:=k9 λq hq=>h q (AK _ hq)
  rw[Ce,Ae,AR]
  lia
theorem ux (C:Cmp prog w A s O key U κ){a0:List Az}{st:AS}{Q:Unit->AS->Prop}(hu:∀p∈a0,U p)(ha:(AH st).toList=a0)(hp:AO st = #[])(hk:kindOf st=κ)(hf:failedOf st=none)(h1:1<=a0.length)
  (h:∀st',(AH st').toList.Perm a0->(AH st').toList.Pairwise (Le key)->failedOf st'=none->Q () st'):wpS (AM prog w) A E s xu Q st:=by
 rw[uw]
 refine Av (Fj ?_)
 dsimp only
 have sz0:(AH st).size=a0.length:=by rw[<- Ai,ha]
 have szR:∀{lo:Nat} {st':AS},Rn key κ a0 lo st'->(AH st').size=(AH st).size:=λR=>by rw[<- Ai,R.perm.length_eq,sz0]
 have uR:∀{lo:Nat} {st':AS},Rn key κ a0 lo st'->∀p∈(AH st').toList,U p:=λR p hp=>hu p (R.perm.mem_iff.mp hp)
 have R0:Rn key κ a0 0 st:=⟨⟨[],a0,by rw[ha];rfl,rfl,λr hr=>(by cases hr),by rw[hp];exact trivial⟩,by rw[ha],hk,hf⟩
 refine Av (CB (BJ (I:=λx c st'=>∃lo,c=(none,lo)/\x<=lo/\lo<=(AH st).size/\Rn key κ a0 lo st') (Q:=λc st'=>c=(none,(AH st).size)/\Rn key κ a0 (AH st).size st') ?step ?fin ⟨0,rfl,Ag _,A7 _,R0⟩) ?post)
 case fin =>
  rintro c st' ⟨lo,rfl,l1,l2,R⟩
  obtain rfl:lo=(AH st).size:=by lia
  exact ⟨rfl,R⟩
 case post =>
  rintro c st1 ⟨rfl,R⟩
  dsimp only
  have p0:(AO st1).size<=(AH st).size:=by
   obtain ⟨runs,rest,ea,el,er,em⟩:=R.ex
   have q:=em.length
   rw[Ai] at q
   have:=k9 λr hr=>(er r hr).2
   lia
  refine Av (CB (BJ (I:=λx c st'=>c=(none,())/\Rn key κ a0 (AH st).size st'/\((AO st').size<=1\/(AO st').size+x<=(AH st).size)) (Q:=λc st'=>c=(none,())/\Rn key κ a0 (AH st).size st'/\(AO st').size<=1) ?stepB ?finB ⟨rfl,R,.inr (by lia)⟩) ?postB)
  case finB =>
   rintro c st' ⟨rfl,R,q⟩
   exact ⟨rfl,R,by lia⟩
  case stepB =>
   rintro x c st' _ hx ⟨rfl,R,q⟩
   refine Av (Fj ?_)
   by_cases c1:(AO st').size<=1
   ·rw[if_pos c1]
    exact AB ⟨rfl,R,c1⟩
   rw[if_neg c1]
   refine Av (nN C hu R (yv (by lia)) λst2 R2 s2 _ =>?_)
   simp only[BW,Ay,if_false]
   exact AB ⟨rfl,R2,by lia⟩
  case postB =>
   rintro c st' ⟨rfl,R,q⟩
   obtain ⟨runs,rest,ea,el,er,em⟩:=R.ex
   have lm:=em.length
   rw[Ai] at lm
   have lr:=congrArg List.length ea
   rw[Ai,szR R,Ae,el] at lr
   have er0:rest=[]:=Er.mp (by lia)
   subst er0
   rw[AU] at ea
   match runs,er,lm,el,ea with
   | [],_,_,el,_=>simp at el;lia
   | [r],er,_,_,ea =>
    have e:(AH st').toList=r:=by rw[ea];simp
    exact AB (h st' R.perm (by rw[e];exact (er r (by simp)).1) R.f)
   | _ :: _ :: _,_,lm,_,_=>simp at lm;lia
 case step =>
  rintro x c st1 _ hx ⟨lo,rfl,l1,l2,R⟩
  dsimp only
  by_cases cl:lo≥(AH st).size
  ·rw[if_pos cl]
   obtain rfl:lo=(AH st).size:=by lia
   exact AB ⟨rfl,R⟩
  rw[if_neg cl]
  have s1:=szR R
  refine Av (wb C R.k (uR R) (by lia) (by lia) λn st2 n1 n2 sa2 up2 =>?_)
  dsimp only
  have R2:=R.sa sa2
  have s2:=szR R2
  by_cases cm:n<mrn (AH st).size (AH st).size 0
  case' pos =>
   rw[if_pos cm]
   refine Av (FC (Dh ⟨rfl,?_⟩))
   obtain ⟨fo,e⟩:∃fo,fo=min ((AH st).size-lo) (mrn (AH st).size (AH st).size 0):=⟨_,rfl⟩
   rw[<- e]
   refine Av (uv C R2.k (uR R2) (by lia) (by lia) up2 λst3 sa3 up3 =>?_)
   simp only[BW,Ay,if_false]
   have R3:=R2.sa sa3
   have f0:0<fo:=by lia
   have f1:lo+fo<=(AH st).size:=by lia
  case' neg =>
   rw[if_neg cm]
   obtain ⟨fo,e⟩:∃fo,fo=n:=⟨_,rfl⟩
   subst e
   obtain ⟨st3,e3⟩:∃st3,st3=st2:=⟨_,rfl⟩
   subst e3
   have R3:=R2
   have up3:=up2
   have f0:0<fo:=n1
   have f1:lo+fo<=(AH st).size:=by lia
  all_goals
   have srt:=rT up3
   have s3:=szR R3
   refine Av (Fj ?_)
   cases hbk:(AO st3).back? with
   | none =>
    dsimp only
    exact Av (CY (AB ⟨lo+fo,rfl,by lia,f1,R3.push f0 (by lia) srt⟩))
   | some t =>
    obtain ⟨t1,t2,t3⟩:=t
    dsimp only
    refine Av (CB (BJ (I:=λ_ c st'=>c=(none,())/\Rn key κ a0 lo st'/\(AH st').toList.drop lo=(AH st3).toList.drop lo) (Q:=λc st'=>c=(none,())/\Rn key κ a0 lo st'/\(AH st').toList.drop lo=(AH st3).toList.drop lo) ?stepC ?finC ⟨rfl,R3,rfl⟩) ?postC)
    case finC=>exact λc st' q=>q
    case stepC =>
     rintro z c st4 _ _ ⟨rfl,R4,d4⟩
     refine Av (Fj ?_)
     by_cases p1:(AO st4).size>1
     ·rw[if_pos p1]
      have lt:(AO st4).size-2<(AO st4).size:=by lia
      have e:(AO st4)[(AO st4).size-2]? = some (AO st4)[(AO st4).size-2]:=by simp[lt]
      rw[e]
      dsimp only
      split
      ·exact AB ⟨rfl,R4,d4⟩
      ·refine Av (nN C hu R4 (by lia) λst5 R5 _ d5 =>?_)
       simp only[BW,Ay,if_false]
       exact AB ⟨rfl,R5,d5.trans d4⟩
     ·rw[if_neg p1]
      exact AB ⟨rfl,R4,d4⟩
    case postC =>
     rintro c st4 ⟨rfl,R4,d4⟩
     dsimp only
     have s4:=szR R4
     refine Av (CY (Av (CY (AB ⟨lo+fo,rfl,by lia,f1,?_⟩))))
     refine Rn.push ?_ f0 ?_ ?_
     ·refine Rn.mod R4 _ _ ?_
      exact λp=>⟨rfl,rfl⟩
     ·show lo+fo<=(AH st4).size
      lia
     ·show (((AH st4).toList.drop lo).take fo).Pairwise (Le key)
      rw[d4]
      exact srt
end
open PySem PyProof.Rows
structure i4 (prog:Au)(w:AV)(s:Ac)(vs:List z9)(O:E1)(key:z9->O.α):Prop where
 ok:2<=vs.length->∀(A:Bd) (h6:Heap),(∀b o,s.heap.get? b=some o->h6.get? b=some o)->∃κ,(∀(Q:SortKind->Ac->Prop) (E:z9->Ac->Prop),Q κ { s with heap:=h6 }->AA (AM prog w) A (keyKind' vs.toArray) Q E { s with heap:=h6 }) ∧
  Cmp prog w A { s with heap:=h6 } O (λp=>key p.1) (λp=>p.1=p.2/\p.1∈vs) κ
section
variable  {prog:Au}{w:AV}{A:Bd}{E:z9->Ac->Prop}{s:Ac}{O:E1}{key:z9->O.α}
theorem zs:∀vs:List z9,(vs.zip vs).map (·.2)=vs
 | []=>rfl
 | v :: vs=>by rw[Em,AL,zs vs]
theorem nO {l:List Az}{vs:List z9}(h:l.Perm (vs.zip vs)):(l.map (·.2)).Perm vs/\∀p∈l,p.1=p.2/\p.1∈vs:=by
 have e:=zs vs
 refine ⟨by have:=h.map (·.2);rw[e] at this;exact this,λp hp =>?_⟩
 have m:=h.mem_iff.mp hp
 obtain ⟨i,hi⟩:=Bb.mp m
 rw[Fd] at hi
 have e1:=hi.1.symm.trans hi.2
 exact ⟨AI e1,Aj hi.1⟩
theorem fX {a:Addr}{vs:List z9}{n:Nat}{P:Fin->Ac->Prop}(ho:s.heap.get? a=some (seqObj "list" vs.toArray n))(hz:vs.length<=Ao)
    (hc:2<=vs.length->∀h6,(∀b o,b≠a->s.heap.get? b=some o->h6.get? b=some o)->∃κ,(∀(Q:SortKind->Ac->Prop) (E:z9->Ac->Prop),Q κ { s with heap:=h6 }->AA (AM prog w) A (keyKind' vs.toArray) Q E { s with heap:=h6 }) ∧
      Cmp prog w A { s with heap:=h6 } O (λp=>key p.1) (λp=>p.1=p.2/\p.1∈vs) κ)
    (h:∀out:List z9,out.Perm vs->out.Pairwise (λx y=>O.kle (key x) (key y))->P (.done (.ret .none)) { s with heap:=sortedHeap s.heap a vs out.toArray }):AA (AM prog w) A (Builtin.«list.sort» ⟨[.ref a],[]⟩) P E s:=by
  rw[list_sort_plain]
  have ha:a<s.heap.objs.size:=An ho
  refine zY (Hi ho rfl ?_)
  refine zY (GQ ho rfl ?_ (by rw[Ad];exact hz) (A7 _))
  obtain ⟨e1,ho1⟩:∃e1,(s.heap.update a (Cr λ_ => #[])).get? a=some (seqObj "list" #[] e1):=⟨_,get?_update_seq ho (λ_ => #[])⟩
  refine zY (seqEpoch_at ho1 rfl (zY (wpAny_newTuple ?_ (by exact hz))))
  refine zY (FD ?_ (A7 _))
  refine Bw ?_
  generalize hH:((s.heap.update a (Cr λ_ => #[])).push (seqObj "tuple" vs.toArray 0)).push (seqObj "list" #[] 0)=h6
  have kp:∀b o,b≠a->s.heap.get? b=some o->h6.get? b=some o:=λb o nb e=>by
    rw[<- hH]
    refine zZ _ (zZ _ ?_)
    rw[Gm _ _ _ _ nb]
    exact e
  have ho6:h6.get? a=some (seqObj "list" #[] e1):=by
    rw[<- hH]
    exact zZ _ (zZ _ ho1)
  have eH:∀out:List z9,sortedHeap s.heap a vs out.toArray=h6.update a (Cr λ_=>out.toArray):=λout=>by rw[<- hH];rfl
  have go:∀st':AS,(AH st').toList.Perm (vs.zip vs)->(AH st').toList.Pairwise (λp q=>O.kle (key p.1) (key q.1))->failedOf st'=none →
      AA (AM prog w) A (do
        let sorted:=(AH st').map (·.2)
        let touched:=(← seqEpoch a) != e1
        Builtin.List.listUpdate (.ref a) λ_=>sorted
        if let some e:=failedOf st' then rule "list.sort.comparison-raised";throw e
        if touched then rule "list.sort.modified";raiseError "ValueError" "list modified during sort"
        ret .none) P E { s with heap:=h6 }:=by
    intro st' pm ps hf
    obtain ⟨z1,z2⟩:=nO pm
    have em:(AH st').map (·.2)=((AH st').toList.map (·.2)).toArray:=by
      apply Hn.mp
      rw[EJ]
    dsimp only
    refine zY (seqEpoch_at ho6 rfl ?_)
    refine zY (GQ ho6 rfl ?_ (A7 _) (by rw[BG, <- Ai,pm.length_eq,Hv,E7];lia))
    rw[hf]
    simp only[bne_self_eq_false,Ay,if_false]
    refine Aa ?_
    rw[em, <- eH]
    refine h _ z1 (BX.mpr (ps.imp_of_mem λ{p q} hp hq le =>?_))
    rw[<- (z2 p hp).1, <- (z2 q hq).1]
    exact le
  by_cases h2:vs.toArray.size<2
  · rw[if_pos h2,if_pos h2]
    refine zY (Aa ?_)
    dsimp only
    rw[StateT.run_pure]
    refine zY (Aa ?_)
    refine go (SortSt.mk' general' (vs.toArray.zip vs.toArray) #[] 7 none) (by show (vs.toArray.zip vs.toArray).toList.Perm _;simp) ?_ rfl
    rw[Ad] at h2
    have et:(vs.toArray.zip vs.toArray).toList=vs.zip vs:=by simp
    show (vs.toArray.zip vs.toArray).toList.Pairwise (λ(p q:Az)=>O.kle (key p.1) (key q.1))
    rw[et]
    have short:∀us:List z9,us.length<2->(us.zip us).Pairwise (λ(p q:Az)=>O.kle (key p.1) (key q.1)):=λus hu=>by
      match us,hu with
      | [],_=>exact List.Pairwise.nil
      | [v],_=>exact CP _ _
      | _ :: _ :: _,hu=>simp only[AR] at hu;lia
    exact short vs h2
  · rw[if_neg h2,if_neg h2]
    rw[Ad] at h2
    obtain ⟨κ,k1,C⟩:=hc (by lia) h6 kp
    refine zY (k1 _ _ ?_)
    have et:(vs.toArray.zip vs.toArray).toList=vs.zip vs:=by simp
    refine zY (Cz (ux C (E:=E) (a0:=vs.zip vs) (st:=SortSt.mk' κ (vs.toArray.zip vs.toArray) #[] 7 none)
      (Q:=λ_ st'=>(AH st').toList.Perm (vs.zip vs)/\(AH st').toList.Pairwise (Le λ(p:Az)=>key p.1)/\failedOf st'=none)
      (nO (DV _)).2 et rfl rfl rfl (by rw[Hv,E7];lia) λst' a1 a2 a3=>⟨a1,a2,a3⟩) ?_ λ_ _ e=>e)
    rintro ⟨⟨⟩,st'⟩ s' ⟨rfl,hp,hs,hf⟩
    exact go st' hp hs hf
def nP (prog:Au)(w:AV)(s:Ac)(v:z9)(vs:List z9):Prop :=
 ∀(A:Bd) (E:z9->Ac->Prop) (R:List z9->Ac->Prop),(∀h1,(∀b o,s.heap.get? b=some o->h1.get? b=some o)->s.heap.objs.size<=h1.objs.size->R vs { s with heap:=h1 })->AA (AM prog w) A (collect v) R E s
theorem jK {v:z9}{vs:List z9}{Q:z9->Ac->Prop}(hv:nP prog w s v vs)(hz:vs.length<=Ao)(C:i4 prog w s vs O key)
  (h:∀(h':Heap) (p:Addr) (out:List z9) (n:Nat),(∀b o,s.heap.get? b=some o->h'.get? b=some o)->s.heap.objs.size<=p->h'.get? p=some (seqObj "list" out.toArray n)->out.Perm vs->out.Pairwise (λx y=>O.kle (key x) (key y))->Q (.ref p) { s with heap:=h' }) :
  AA (AM prog w) A (call (.builtin "sorted") [v]) Q E s:=by
 refine Fg kind_sorted plain_sorted entry_sorted (args_sorted1 _) ?_
 unfold Builtin.«sorted»
 refine zY (m:=checkCount "sorted" 1 1 _) (Aa ?_)
 refine zY (hv _ _ _ λh1 k1 z1=>zY (FD ?_ hz))
 have hoL:(h1.push (seqObj "list" vs.toArray 0)).get? h1.objs.size=some (seqObj "list" vs.toArray 0):=Am _ rfl
 have kL:∀b o,s.heap.get? b=some o->(h1.push (seqObj "list" vs.toArray 0)).get? b=some o:=λb o e=>zZ _ (k1 b o e)
 refine zY (Bw (Cc slot_list_sort ⟨_,hoL,rfl⟩ entry_list_sort (fX (key:=key) (O:=O) hoL hz (λh2 h6 k6 =>?_) λout pm ps=>⟨_,rfl,?_⟩) (args_list_sort _)))
 ·exact C.ok h2 _ h6 λb o e=>k6 b o (AD (Ax (An e) z1)) (kL b o e)
 ·obtain ⟨n,en⟩:=sortedHeap_at (out:=out.toArray) hoL
  refine Aa ⟨_,rfl,h _ _ out n (λb o e =>?_) z1 en pm ps⟩
  have lt:=Ax (An e) z1
  rw[sortedHeap_old (AD lt) (by rw[HQ];exact Bo lt)]
  exact kL b o e
theorem gL {l:Addr}{o:Obj}{vs:List z9}{n:Nat}(ho:s.heap.get? l=some o)(hc:o.cls = .type "list" \/ o.cls = .type "tuple")(hd:o.data = .seq vs.toArray n)(hz:vs.length<=Ao):nP prog w s (.ref l) vs:=by
  intro A E R h
  unfold collect
  refine zY (EE (Bi entry_proto_collect' ?_))
  show AA _ _ (do again (.builtin "list.__iadd__" ⟨[<- newList [],.ref l],[]⟩)) _ _ s
  refine zY (FD (Aa ⟨E8 _ (by decide +kernel),Bi entry_list_iadd' ?_⟩))
  show AA _ _ (BF (.ref s.heap.objs.size) (.ref l) (.ref s.heap.objs.size)) _ _ { s with heap:=s.heap.push (seqObj "list" #[] 0) }
  unfold BF
  have ho':(s.heap.push (seqObj "list" #[] 0)).get? l=some o:=zZ _ ho
  have cond:∀T,o.cls = .type T->(T = "list" \/ T = "tuple")->AA (AM prog w) A (typeOf (.ref l)) (λt s'=>t = .type T/\s'={ s with heap:=s.heap.push (seqObj "list" #[] 0) }) E { s with heap:=s.heap.push (seqObj "list" #[] 0) }:=λT e _=>Dm (T:=T) ⟨o,ho',e⟩ ⟨rfl,rfl⟩
  obtain ⟨T,eT,hT⟩:∃T,o.cls = .type T/\(T = "list" \/ T = "tuple"):=by
    rcases hc with hc | hc
    · exact ⟨_,hc,.inl rfl⟩
    · exact ⟨_,hc,.inr rfl⟩
  refine zY (Dm (T:=T) ⟨o,ho',eT⟩ ?_)
  rw[if_pos (by rcases hT with rfl | rfl <;> simp)]
  refine zY (Hi ho' hd ?_)
  refine zY (Hi (xs := #[]) (n:=0) (Am _ rfl) rfl ?_)
  rw[if_neg (by simp)]
  refine zY (GQ (xs := #[]) (n:=0) (Am _ rfl) rfl ?_ (A7 _) (by show (#[]++vs.toArray).size<=Ao+1;simp only[DS,Ad,Ck];lia))
  refine Aa ?_
  show AA (AM prog w) A (do
      let o ← load s.heap.objs.size
      match o.data with
      | .seq xs _=>pure xs.toList
      | _=>unsupported "internal:collect") R E { s with heap:=(s.heap.push (seqObj "list" #[] 0)).update s.heap.objs.size (Cr (· ++ vs.toArray)) }
  refine zY (G9 (get?_update_seq (Am _ rfl) _) ?_)
  show AA _ _ (pure ((#[]:Array z9)++vs.toArray).toList) R E _
  rw[show ((#[]:Array z9)++vs.toArray).toList=vs by simp]
  refine Aa (h _ (λb ob e =>?_) ?_)
  · rw[Gm _ _ _ _ (AD (An e))]
    exact zZ _ e
  · rw[Heap.size_update,HQ]
    exact Nat.le_succ _
end
open PySem PyProof.Rows
def yx:E1 where
 α:=Int
 blt:=λa b=>decide (a<b)
 irrefl:=λa=>by simp
 trans:=λa b c h1 h2=>by simp at *;lia
 negTrans:=λa b c h=>by simp at *;lia
 total:=λa b h1 h2=>by simp at *;lia
theorem lex_irrefl:∀a,HT.lexLt a a=false
 | []=>rfl
 | x :: xs=>by rw[HT.cU,if_pos rfl];exact lex_irrefl xs
theorem lex_trans:∀a b c,HT.lexLt a b=true->HT.lexLt b c=true->HT.lexLt a c=true
 | [],[],_,h,_=>by cases h
 | [],_ :: _,[],_,h=>by cases h
 | [],_ :: _,_ :: _,_,_=>rfl
 | _ :: _,[],_,h,_=>by cases h
 | _ :: _,_ :: _,[],_,h=>by cases h
 | x :: xs,y :: ys,z :: zs,h1,h2=>by
  rw[HT.cU] at *
  by_cases e1:x=y
  ·subst e1
   rw[if_pos rfl] at h1
   by_cases e2:x=z
   ·rw[if_pos e2] at h2 ⊢
    exact lex_trans xs ys zs h1 h2
   ·rw[if_neg e2] at h2 ⊢
    exact h2
  ·rw[if_neg e1] at h1
   have l1:=of_decide_eq_true h1
   by_cases e2:y=z
   ·subst e2
    rw[if_neg e1]
    exact h1
   ·rw[if_neg e2] at h2
    have l2:=of_decide_eq_true h2
    rw[if_neg (by omega)]
    exact decide_eq_true (by omega)
theorem ij:∀a b,HT.lexLt a b=false->HT.lexLt b a=false->a=b
 | [],[],_,_=>rfl
 | [],_ :: _,h,_=>by cases h
 | _ :: _,[],_,h=>by cases h
 | x :: xs,y :: ys,h1,h2=>by
  rw[HT.cU] at *
  by_cases e:x=y
  ·subst e
   rw[if_pos rfl] at h1 h2
   rw[ij xs ys h1 h2]
  ·rw[if_neg e] at h1
   rw[if_neg (B4 e)] at h2
   have a1:=of_decide_eq_false h1
   have a2:=of_decide_eq_false h2
   omega
theorem wc (a b c:List Int)(h:HT.lexLt a c=true):HT.lexLt a b=true\/HT.lexLt b c=true:=by
 cases h1:HT.lexLt a b with
 | true=>exact .inl rfl
 | false =>
  right
  cases h2:HT.lexLt b a with
  | true=>exact lex_trans b a c h2 h
  | false=>rw[<- ij a b h1 h2];exact h
def lexOrd:E1 where
 α:=List Int
 blt:=HT.lexLt
 irrefl:=lex_irrefl
 trans:=lex_trans
 negTrans:=wc
 total:=ij
def intOf:z9->Int
 | .int i _=>i
 | _=>0
section
variable  {prog:Au}{w:AV}{A:Bd}{E:z9->Ac->Prop}{s:Ac}
theorem gM:∀{vs:List z9} {ns:List Int},CA vs ns->∀v∈vs,∃i t,v = .int i t
 | _,_,.nil,v,h=>by cases h
 | _,_,.cons n t r,v,h=>by
  rcases AJ.mp h with e | e
  ·exact ⟨n,t,e⟩
  ·exact gM r v e
theorem mw {vs:List z9}{ns:List Int}(hI:CA vs ns):i4 prog w s vs yx intOf:=by
 refine ⟨λh2 A h6 _=>⟨oneType',λQ E q =>?_,⟨λE st x y Q hk hx hy q =>?_⟩⟩⟩
 ·match vs,h2,hI with
  | v1 :: v2 :: rest,_,hI =>
   rw[keyKind_ints hI]
   exact Aa q
  | [],h2,_=>simp at h2
  | [_],h2,_=>simp at h2
 ·obtain ⟨i,t,e1⟩:=gM hI _ hx.2
  obtain ⟨j,u,e2⟩:=gM hI _ hy.2
  rw[lt'_eq]
  refine Av (Fj ?_)
  rw[hk,keyLt'_oneType,e1,e2]
  refine Av (FC (DU (oneLt_int ⟨rfl,?_⟩)))
  refine AB ?_
  have q':Q (some (decide (intOf x.1<intOf y.1))) st:=q
  rw[e1,e2] at q'
  exact q'
def cB (h:Heap)(v:z9):List Int:=match v with
 | .ref p=>match h.get? p with
  | some o=>match o.data with
   | .seq xs _=>xs.toList.map intOf
   | _=>[]
  | none=>[]
 | _=>[]
def cW (h:Heap)(v:z9)(ns:List Int):Prop:=∃p o xs n,v = .ref p/\h.get? p=some o/\o.cls = .type "tuple" /\ o.data = .seq xs n/\CA xs.toList ns
theorem ints_map:∀{vs:List z9} {ns:List Int},CA vs ns->vs.map intOf=ns
 | _,_,.nil=>rfl
 | _,_,.cons n t r=>by rw[AL,ints_map r];rfl
theorem cW.ints {h:Heap}{v:z9}{ns:List Int}(x:cW h v ns):cB h v=ns:=by
 obtain ⟨p,o,xs,n,rfl,e,_,d,r⟩:=x
 unfold cB
 dsimp only
 rw[e]
 dsimp only
 rw[d]
 exact ints_map r
theorem cW.keeps {h h':Heap}{v:z9}{ns:List Int}(x:cW h v ns)(k:∀b o,h.get? b=some o->h'.get? b=some o):cW h' v ns:=by
 obtain ⟨p,o,xs,n,rfl,e,r⟩:=x
 exact ⟨p,o,xs,n,rfl,k _ _ e,r⟩
theorem nQ {fin:Bool}{Q:Bool->Ac->Prop}:∀{us ws:List z9} {ns ms:List Int} (i:Nat),CA us ns->CA ws ms->(fin=true↔(decide (ns.length<ms.length)=true))->Q (HT.lexLt ns ms) s →
  PySem.W.KatLex prog w A true fin Q (us.zip ws) i s
 | _,_,_,_,i,.nil,.nil,hf,q=>by
  refine FX ?_
  have e:fin=false:=by cases fin with
   | false=>rfl
   | true=>have:=hf.mp rfl;simp at this
  rw[e];exact q
 | _,_,_,_,i,.nil,.cons _ _ _,hf,q=>by
  refine FX ?_
  have e:fin=true:=hf.mpr (by simp)
  rw[e];exact q
 | _,_,_,_,i,.cons _ _ _,.nil,hf,q=>by
  refine FX ?_
  have e:fin=false:=by cases fin with
   | false=>rfl
   | true=>have:=hf.mp rfl;simp at this
  rw[e];exact q
 | _,_,_,_,i,.cons (ns:=ns) a t r,.cons (ns:=ms) c u r',hf,q=>by
  rw[Em]
  refine PySem.W.kat_cons (wpAny_eqBool_int ?_)
  rw[HT.cU] at q
  by_cases e:a=c
  ·rw[if_pos e] at q
   rw[beq_iff_eq.mpr e]
   exact PySem.W.kat_yes (nQ (i+1) r r' (by rw[hf];simp) q)
  ·rw[if_neg e] at q
   rw[beq_eq_false_iff_ne.mpr e]
   refine PySem.W.kat_no ?_
   by_cases i0:(true && i == 0)=true
   ·rw[i0]
    exact oneLt_int q
   ·rw[DT.mpr i0,oneLt'_eq]
    simp only[Ay,if_false]
    refine zY (HT.nH _ _ a t c u prog w _ _ ?_)
    exact B1 q
theorem jL {h:Heap}:∀{vs:List z9},(∀v∈vs,∃ns,cW h v ns/\ns≠[])->∃fs,PySem.W.KatTups h vs fs/\fs.length=vs.length/\∀f∈fs,∃i t,f = .int i t
 | [],_=>⟨[],trivial,rfl,λf hf=>by cases hf⟩
 | v :: vs,hv=>by
  obtain ⟨fs,t,l,hf⟩:=jL λu hu=>hv u (AK _ hu)
  obtain ⟨ns,⟨p,o,xs,n,rfl,e,c,d,r⟩,ne⟩:=hv v AN
  have hx:∃i t,xs[0]? = some (.int i t):=by
   rw[<- Ap]
   generalize xs.toList=l at r
   cases r with
   | nil=>exact absurd rfl ne
   | cons i t r=>exact ⟨i,t,rfl⟩
  obtain ⟨i,t',hx⟩:=hx
  exact ⟨.int i t' :: fs,Ic e c d hx t,by rw[AR,AR,l],λf hf'=>by
   rcases AJ.mp hf' with q | q
   ·exact ⟨i,t',q⟩
   ·exact hf f q⟩
theorem gN {vs:List z9}(hv:∀v∈vs,∃ns,cW s.heap v ns/\ns≠[]):i4 prog w s vs lexOrd (cB s.heap):=by
 refine ⟨λh2 A h6 k6=>⟨tuples' true,λQ E q =>?_,⟨λE st x y Q hk hx hy q =>?_⟩⟩⟩
 ·obtain ⟨fs,t,l,hf⟩:=jL (h:=h6) (vs:=vs) λv hv'=>by
   obtain ⟨ns,i,ne⟩:=hv v hv'
   exact ⟨ns,i.keeps k6,ne⟩
  refine PySem.W.kat_kind (T :=.type "int") t (by lia) (λf hf' =>?_) rfl q
  obtain ⟨i,t',rfl⟩:=hf f hf'
  exact Ia rfl
 ·obtain ⟨ns,i1,_⟩:=hv _ hx.2
  obtain ⟨ms,i2,_⟩:=hv _ hy.2
  have q':Q (some (HT.lexLt (cB s.heap x.1) (cB s.heap y.1))) st:=q
  rw[i1.ints,i2.ints] at q'
  obtain ⟨p1,o1,xs1,n1,e1,g1,c1,d1,r1⟩:=i1.keeps k6
  obtain ⟨p2,o2,xs2,n2,e2,g2,c2,d2,r2⟩:=i2.keeps k6
  rw[lt'_eq]
  refine Av (Fj ?_)
  rw[hk,e1,e2]
  have l1:=r1.length
  have l2:=r2.length
  refine Av (FC (DU (PySem.W.kat_lt g1 d1 g2 d2 (nQ 0 r1 r2 ?_ ⟨rfl,?_⟩))))
  ·rw[<- l1, <- l2,Ai,Ai]
  ·exact AB q'
end
end Srt
namespace L2
open PySem PySem.Spec PyProof.Rows
theorem jM {α β:Type}{f:α -> β}:∀{l:List β} {m:List α},l.Perm (m.map f)->∃m':List α,m'.Perm m/\l=m'.map f:=by
 intro l m h
 generalize hk:m.map f=k at h
 induction h generalizing m with
 | nil =>
  have:m=[]:=List.map_eq_nil_iff.mp hk
  exact ⟨[],by rw[this],rfl⟩
 | cons x _ ih =>
  match m,hk with
  | y :: m,hk =>
   rw[AL] at hk
   injection hk with h1 h2
   obtain ⟨m',p,e⟩:=ih h2
   exact ⟨y :: m',p.cons y,by rw[AL, <- e,h1]⟩
  | [],hk=>cases hk
 | swap x y l =>
  match m,hk with
  | a :: b :: m,hk =>
   rw[AL,AL] at hk
   injection hk with h1 h2
   injection h2 with h2 h3
   exact ⟨b :: a :: m,List.Perm.swap a b m,by rw[AL,AL,h1,h2,h3]⟩
  | [],hk=>cases hk
  | [_],hk=>simp at hk
 | trans _ _ ih1 ih2 =>
  obtain ⟨m',p,e⟩:=ih2 hk
  obtain ⟨m'',p',e'⟩:=ih1 e.symm
  exact ⟨m'',p'.trans p,e'⟩
theorem cP:∀{ns:List Int} {us:List z9},Vals (ns.map V.int) us->CA us ns:=λr=>intsAre_of r
theorem my:∀{us:List z9} {ns:List Int},CA us ns->Vals (ns.map V.int) us:=λr=>ic r
theorem lb:∀{us:List z9},(∀u∈us,∃i t,u=Cb i t)->CA us (us.map Srt.intOf)
 | [],_ =>.nil
 | u :: us,h=>by
  obtain ⟨i,t,e⟩:=h u AN
  subst e
  exact .cons i t (lb λv hv=>h v (AK _ hv))
theorem dA:∀{α:Type} {f:α -> Addr} {ps:List α} {us:List z9},Vals (ps.map λx=>V.ref (f x)) us->us=ps.map λx=>Ar (f x)
 | _,_,[],_,r=>by cases r;rfl
 | _,f,p :: ps,_,r=>by
  cases r with
  | cons h t=>rw[AL, <- dA t,show _=Ar (f p) from h]
theorem fG {α:Type}{f:α -> Addr}:∀{ps:List α},Vals (ps.map λx=>V.ref (f x)) (ps.map λx=>Ar (f x))
 | [] =>.nil
 | p :: ps =>.cons rfl fG
section
variable  {X:Cx}
theorem Inv.nR {pins:List (Addr×Obj)}{σ:St}{H:Hp}{s:Ac}{p:Addr}{ys:List V}(I:Inv X pins σ H s)(h:SqL X.K H p ys\/SqT X.K H p ys) :
  ∃(its:List z9) (o:Obj) (n:Nat),Vals ys its/\s.heap.get? p=some o/\(o.cls = .type "list" \/ o.cls = .type "tuple")/\o.data = .seq its.toArray n/\ys.length<=Ao:=by
 rcases h with h | h
 ·obtain ⟨its,r,⟨o,n,e,c,_,d⟩,z⟩:=I.list h
  exact ⟨its,o,n,r,e,.inl c,d,z⟩
 ·obtain ⟨its,r,⟨o,e,c,n,d⟩,z⟩:=I.tuple h
  exact ⟨its,o,n,r,e,.inr c,d,z⟩
theorem Inv.newList {pins:List (Addr×Obj)}{σ:St}{H:Hp}{s:Ac}{h':Heap}{p:Addr}{ys:List V}{its:List z9}{n:Nat}(I:Inv X pins σ H s)(k:∀b o,s.heap.get? b=some o->h'.get? b=some o)(hp:s.heap.objs.size<=p)
  (e:h'.get? p=some { cls :=.type "list",data :=.seq its.toArray n }) (r:Vals ys its) (hz:ys.length<=Ao):Inv X pins σ (upd H p (.lst ys)) { s with heap:=h' } :=
 I.laid (t':=s.toks) k hp ⟨hz,its,n,r,e⟩
theorem mz:bM X (.builtin "sorted") (λxs H Q=>∃(p:Addr) (ns:List Int),xs=[.ref p]/\(SqL X.K H p (ns.map V.int)\/SqT X.K H p (ns.map V.int))/\∀(l:Addr) (out:List Int),H l=none->out.Perm ns->out.Pairwise (· <= ·)->Q (.ref l) (upd H l (.lst (out.map V.int)))):=by
 intro pins s σ H xs us Q I r h
 obtain ⟨p,ns,rfl,hs,q⟩:=h
 obtain ⟨u,rfl,ru⟩:=vals1 r
 cases (show u=Ar p from ru)
 obtain ⟨its,o,n,rv,e,c,d,z⟩:=I.nR hs
 have hI:=cP rv
 have lz:its.length<=Ao:=by rw[<- rv.length];exact z
 refine Srt.jK (Srt.gL e c d lz) lz (Srt.mw hI) λh' l out m k hl el pm ps =>?_
 have hm:∀v∈out,∃i t,v=Cb i t:=λv hv=>Srt.gM hI v (pm.mem_iff.mp hv)
 have hO:=lb hm
 have pm':(out.map Srt.intOf).Perm ns:=by
  have:=pm.map Srt.intOf
  rw[Srt.ints_map hI] at this
  exact this
 refine ⟨.ref l,_,I.newList k hl el (my hO) (by rw[z4,pm'.length_eq, <- z4 (f:=V.int)];exact z),rfl,q l _ (I.hok.fresh hl) pm' ?_⟩
 refine BX.mpr (ps.imp λ{x y} le =>?_)
 have le':decide (Srt.intOf y<Srt.intOf x)=false:=le
 have:=of_decide_eq_false le'
 lia
theorem mB:bM X (.builtin "sorted") (λxs H Q=>∃(p:Addr) (ts:List (Addr×List Int)),xs=[.ref p]/\(SqL X.K H p (ts.map λt =>.ref t.1)\/SqT X.K H p (ts.map λt =>.ref t.1))/\(∀t∈ts,SqT X.K H t.1 (t.2.map V.int)/\t.2≠[]) ∧
  ∀(l:Addr) (out:List (Addr×List Int)),H l=none->out.Perm ts->out.Pairwise (λa b=>HT.lexLt b.2 a.2=false)->Q (.ref l) (upd H l (.lst (out.map λt =>.ref t.1)))):=by
 intro pins s σ H xs us Q I r h
 obtain ⟨p,ts,rfl,hs,ht,q⟩:=h
 obtain ⟨u,rfl,ru⟩:=vals1 r
 cases (show u=Ar p from ru)
 obtain ⟨its,o,n,rv,e,c,d,z⟩:=I.nR hs
 have ei:=dA rv
 have lz:its.length<=Ao:=by rw[<- rv.length];exact z
 have tup:∀t∈ts,Srt.cW s.heap (Ar t.1) t.2:=λt hm=>by
  obtain ⟨jts,jr,⟨jo,je,jc,jn,jd⟩,_⟩:=I.tuple (ht t hm).1
  exact ⟨t.1,jo,_,jn,rfl,je,jc,jd,by simpa using cP jr⟩
 have hv:∀v∈its,∃ns,Srt.cW s.heap v ns/\ns≠[]:=λv hv=>by
  rw[ei] at hv
  obtain ⟨t,hm,rfl⟩:=Bc.mp hv
  exact ⟨t.2,tup t hm,(ht t hm).2⟩
 refine Srt.jK (Srt.gL e c d lz) lz (Srt.gN hv) λh' l out m k hl el pm ps =>?_
 rw[ei] at pm
 obtain ⟨out',pm',rfl⟩:=jM pm
 refine ⟨.ref l,_,I.newList k hl el fG (by rw[z4,pm'.length_eq, <- z4 (f:=λt:Addr×List Int=>V.ref t.1)];exact z),rfl,q l _ (I.hok.fresh hl) pm' ?_⟩
 refine (BX.mp ps).imp_of_mem λ{a b} ha hb le =>?_
 have le':HT.lexLt (Srt.cB s.heap (Ar b.1)) (Srt.cB s.heap (Ar a.1))=false:=le
 rw[(tup a (pm'.mem_iff.mp ha)).ints,(tup b (pm'.mem_iff.mp hb)).ints] at le'
 exact le'
end
open PySem PySem.Spec PyProof.Rows
def Tp (H H':Hp):Prop:=∀b xs,H b=some (.tup xs)->H' b=some (.tup xs)
theorem aA.tp {H H':Hp}(a:aA H H'):Tp H H':=λc u h=>a c _ h
def mnI (a b:Int):Int:=if b<a then b else a
def mxI (a b:Int):Int:=if b>a then b else a
def nrm (a b:Int):List Int:=[mnI a b,mxI a b]
theorem gO (a b:Int):nrm a b=nrm b a:=by
 have h1:mnI a b=mnI b a:=by unfold mnI;split <;> split <;> lia
 have h2:mxI a b=mxI b a:=by unfold mxI;split <;> split <;> lia
 unfold nrm
 rw[h1,h2]
open PySem PySem.Spec PyProof.Rows
section
variable  {X:Cx}{tg:Expr}
def iSeq (K:z8)(tl:TE):TI:=λσ H R=>tl σ H λx H1=>∃a,x = .ref a/\(((∃xs,SqL K H1 a xs)/\R (Itl K a) H1)\/((∃xs,SqT K H1 a xs)/\R (Itt K a) H1))
theorem yy {l:Expr}{tl:TE}(hl:PE X l tl):PI X tg l (iSeq X.K tl):=by
 intro pins s σ H R I h;refine thn (hl pins s σ H _ I h) λv s1 ⟨x,H1,I1,r1,q1⟩ =>?_
 obtain ⟨a,e,q1⟩:=q1
 subst e
 cases r1
 have fp:∀b∈[s1.heap.objs.size],kj X pins H1 b:=λb hb=>by
  have e:b=s1.heap.objs.size:=by simpa using hb
  rw[e];exact I1.vF (Ag _) (I1.hok.fresh (Ag _))
 rcases q1 with ⟨⟨xs,hq⟩,q⟩ | ⟨⟨xs,hq⟩,q⟩
 ·obtain ⟨its,rv,p,hz⟩:=I1.list hq;refine Dz p.isList ?_
  exact ⟨s1.heap.objs.size,_,_,_,H1,rfl,I1.kept (t':=s1.toks) (λb o e=>zZ _ e),kN a _,⟨_,Am _ rfl,rfl,rfl⟩,fp,q⟩
 ·obtain ⟨its,rv,p,hz⟩:=I1.tuple hq;refine Dk (show s1.heap.IsTuple a its.toArray from p) ?_
  exact ⟨s1.heap.objs.size,_,_,_,H1,rfl,I1.kept (t':=s1.toks) (λb o e=>zZ _ e),ju a _,⟨_,Am _ rfl,rfl,rfl⟩,fp,q⟩
end
end L2
namespace STab
open PySem PySem.SetTable
def mC (xs:Array Nat):Prop:=∀i j a b:Nat,xs[i]? = some a->xs[j]? = some b->i<j->a<b
theorem uy {xs:Array Nat}(R:mC xs)(j:Nat):∀(fuel lo hi:Nat),lo<=hi->hi<=xs.size->hi-lo<=fuel →
  (∀i a,i<lo->xs[i]? = some a->a<j)->(∀i a,hi<=i->xs[i]? = some a->j<=a) →
  below.go xs j fuel lo hi<=xs.size/\(∀i a,xs[i]? = some a->(i<below.go xs j fuel lo hi↔a<j)):=by
 intro fuel
 induction fuel with
 | zero =>
  intro lo hi h1 h2 h3 h4 h5
  unfold below.go
  refine ⟨by lia,λi a e=>⟨λq=>h4 i a q e,λq =>?_⟩⟩
  apply DY
  intro q2
  have:=h5 i a (by lia) e
  lia
 | succ fuel ih =>
  intro lo hi h1 h2 h3 h4 h5
  unfold below.go
  by_cases hl:lo<hi
  ·rw[if_pos hl]
   dsimp only
   have hm:(lo+hi)/2<xs.size:=by lia
   have em:xs[(lo+hi)/2]? = some xs[(lo+hi)/2]:=AG hm
   have eg:xs.getD ((lo+hi)/2) j=xs[(lo+hi)/2]:=by simp[Array.getD,hm]
   rw[eg]
   by_cases hc:xs[(lo+hi)/2]<j
   ·rw[if_pos hc]
    refine ih _ _ (by lia) h2 (by lia) (λi a q e =>?_) h5
    by_cases q2:i=(lo+hi)/2
    ·rw[q2,em] at e;cases e;exact hc
    ·exact Nat.lt_trans (R i _ _ _ e em (by lia)) hc
   ·rw[if_neg hc]
    refine ih _ _ (by lia) (by lia) (by lia) h4 (λi a q e =>?_)
    by_cases q2:i=(lo+hi)/2
    ·rw[q2,em] at e;cases e;lia
    ·have:=R _ i _ _ em e (by lia)
     lia
  ·rw[if_neg hl]
   refine ⟨by lia,λi a e=>⟨λq=>h4 i a q e,λq =>?_⟩⟩
   apply DY
   intro q2
   have:=h5 i a (by lia) e
   lia
theorem cX {xs:Array Nat}(R:mC xs)(j:Nat):below xs j<=xs.size/\∀i a,xs[i]? = some a->(i<below xs j↔a<j) :=
 uy R j _ _ _ (A7 _) (Ag _) (by lia) (λi a h=>by lia) λi a h e=>by
  rw[De (by lia)] at e;cases e
theorem below_at {xs:Array Nat}(R:mC xs){i j:Nat}(h:xs[i]? = some j):below xs j=i:=by
 obtain ⟨h1,h2⟩:=cX R j
 have hi:i<xs.size:=by
  apply DY;intro q;rw[De q] at h;cases h
 have a1:¬ i<below xs j:=λq=>by have:=(h2 i j h).mp q;lia
 apply Ep (by lia)
 apply EF
 intro q
 have e:=AG (xs:=xs) (i:=below xs j) (by lia)
 have l1:=R _ _ _ _ e h q
 have:=(h2 _ _ e).mpr l1
 lia
theorem pk {xs:Array Nat}(R:mC xs){i j:Nat}(h:xs[i]? = some j):below xs (j+1)=i+1:=by
 obtain ⟨h1,h2⟩:=cX R (j+1)
 have a1:i<below xs (j+1):=(h2 i j h).mpr (by lia)
 apply Ep _ a1
 apply EF
 intro q
 have hk:i+1<xs.size:=by lia
 have e:=AG (xs:=xs) hk
 have l1:=R _ _ _ _ h e (by lia)
 have:=(h2 _ _ e).mp q
 lia
theorem pq {xs:Array Nat}(R:mC xs):below xs 0=0:=by
 obtain ⟨h1,h2⟩:=cX R 0
 apply Ep _ (A7 _)
 apply EF
 intro q
 have:=(h2 0 _ (AG (by lia))).mp q
 lia
theorem bI {α:Type}(xs:Array α)(p:Nat)(x:α):(insertAt xs p x).toList=xs.toList.take p++x :: xs.toList.drop p:=by
 unfold insertAt
 simp
 rw[AY (by simp)]
theorem bO {α:Type}(xs:Array α){p:Nat}(hp:p<=xs.size)(x:α)(i:Nat) :
  (insertAt xs p x)[i]? = if i<p then xs[i]? else if i=p then some x else xs[i-1]? := by
 rw[<- Ap,bI]
 have hl:(xs.toList.take p).length=p:=by rw[Bf,Ai];lia
 by_cases h1:i<p
 ·rw[if_pos h1,AW (by lia),Cn,if_pos h1,Ap]
 ·rw[if_neg h1,A0 (by lia),hl]
  by_cases h2:i=p
  ·rw[if_pos h2,h2,FY];rfl
  ·rw[if_neg h2]
   obtain ⟨d,hd⟩:∃d,i-p=d+1:=⟨i-p-1,by lia⟩
   rw[hd,CQ,DI,Ap]
   congr 1;lia
theorem cC {α:Type}(xs:Array α)(p:Nat)(x:α):(insertAt xs p x).size=xs.size+1:=by
 rw[<- Ai,bI,Ae,AR,Bf,Bk,Ai]
 lia
theorem insertAt_perm {α:Type}(xs:Array α)(p:Nat)(x:α):(insertAt xs p x).toList.Perm (x :: xs.toList):=by
 rw[bI]
 exact Hk.trans (by rw[CD])
theorem mD {α β:Type}(xs:Array α)(p:Nat)(x:α)(f:α -> β):(insertAt xs p x).map f=insertAt (xs.map f) p (f x):=by
 apply Hn.mp
 rw[EJ,bI,bI,EJ,AE,AL,ER,ES]
theorem ku {xs:Array Nat}(R:mC xs){j:Nat}(hj:∀i:Nat,xs[i]? ≠ some j):mC (insertAt xs (below xs j) j):=by
 obtain ⟨h1,h2⟩:=cX R j
 intro a b x y ea eb hab
 rw[bO _ h1] at ea eb
 by_cases a1:a<below xs j
 ·rw[if_pos a1] at ea
  have:=(h2 _ _ ea).mp a1
  by_cases b1:b<below xs j
  ·rw[if_pos b1] at eb;exact R _ _ _ _ ea eb hab
  ·rw[if_neg b1] at eb
   by_cases b2:b=below xs j
   ·rw[if_pos b2] at eb;cases eb;exact this
   ·rw[if_neg b2] at eb
    exact R _ _ _ _ ea eb (by lia)
 ·rw[if_neg a1] at ea
  rw[if_neg (by lia),if_neg (by lia)] at eb
  have l1:¬ y<j:=λq=>by have:=(h2 _ _ eb).mpr q;lia
  by_cases a2:a=below xs j
  ·rw[if_pos a2] at ea;cases ea
   have:y≠j:=λq=>hj _ (q ▸ eb)
   lia
  ·rw[if_neg a2] at ea
   exact R _ _ _ _ ea eb (by lia)
def occ (t:SetTable)(j:Nat):Prop:=∃i:Nat,t.place[i]? = some j
theorem ik {t:SetTable}(R:mC t.place){i j:Nat}(h:t.place[i]? = some j):t.slot j = .live i:=by
 unfold SetTable.slot
 dsimp only
 rw[below_at R h,h]
 simp
theorem pz {t:SetTable}(D:t.dummies = #[]){j:Nat}(h:¬ occ t j):t.slot j = .empty:=by
 unfold SetTable.slot
 dsimp only
 have h1:(t.place[below t.place j]? == some j)=false:=by
  rw[beq_eq_false_iff_ne];exact λq=>h ⟨_,q⟩
 rw[h1,D]
 simp[has]
def adv (mask:Nat)(p:Probe):Probe :=
 if p.more>0 then { p with j:=p.j+1,more:=p.more-1 } else
 let (i,perturb):=leap mask p.i p.perturb
 { p with j:=i,more:=runEnd mask i-i,i,perturb }
def cG (mask i perturb:Nat):Probe:={ j:=i,more:=runEnd mask i-i,i,perturb,dummy:=none }
def start (mask:Nat)(h:Int):Probe:=cG mask (bits h%(mask+1)) (bits h)
inductive Way (oc:Nat->Prop)(mask:Nat):Nat->Probe->Probe->Prop
 | here (p:Probe):Way oc mask 0 p p
 | step {n:Nat} {p q:Probe}:oc p.j->Way oc mask n (adv mask p) q->Way oc mask (n+1) p q
theorem Way.mono {oc oc':Nat->Prop}{mask n:Nat}{p q:Probe}(m:∀j,oc j->oc' j)(h:Way oc mask n p q):Way oc' mask n p q:=by
 induction h with
 | here p=>exact .here p
 | step a _ ih=>exact .step (m _ a) ih
theorem Way.dummy {oc:Nat->Prop}{mask n:Nat}{p q:Probe}(h:Way oc mask n p q):q.dummy=p.dummy:=by
 induction h with
 | here p=>rfl
 | @step n p q _ _ ih =>
  rw[ih];unfold adv;split <;> rfl
theorem yz {mask:Nat}{p:Probe}(h:p.j+p.more<=mask):(adv mask p).j+(adv mask p).more<=mask:=by
 unfold adv
 split
 ·dsimp only;lia
 ·dsimp only[leap]
  have:(p.i*5+1+p.perturb/32)%(mask+1)<mask+1:=EB _ (Ef mask)
  unfold runEnd
  split <;> lia
theorem nT (mask:Nat)(h:Int):(start mask h).j+(start mask h).more<=mask:=by
 unfold start cG
 dsimp only
 have:bits h%(mask+1)<mask+1:=EB _ (Ef mask)
 unfold runEnd
 split <;> lia
theorem Way.le {oc:Nat->Prop}{mask n:Nat}{p q:Probe}(h:Way oc mask n p q):p.j+p.more<=mask->q.j<=mask:=by
 induction h with
 | here p=>intro;lia
 | step _ _ ih=>intro h;exact ih (yz h)
def mE (mask:Nat):Nat->Probe->Probe
 | 0,p=>p
 | n+1,p=>mE mask n (adv mask p)
theorem nU (mask:Nat):∀(a b:Nat) (p:Probe),mE mask (a+b) p=mE mask b (mE mask a p)
 | 0,b,p=>by rw[DN];rfl
 | a+1,b,p=>by rw[show a+1+b=(a+b)+1 by lia];exact nU mask a b (adv mask p)
theorem rV (oc:Nat->Prop)(mask:Nat):∀(n:Nat) (p:Probe),¬ oc (mE mask n p).j->∃k q,k<=n/\Way oc mask k p q/\¬ oc q.j:=by
 intro n
 induction n with
 | zero=>intro p h;exact ⟨0,p,Ag _,.here p,h⟩
 | succ n ih =>
  intro p h
  by_cases hp:oc p.j
  ·obtain ⟨k,q,a,b,c⟩:=ih (adv mask p) h
   exact ⟨k+1,q,by lia,.step hp b,c⟩
  ·exact ⟨0,p,A7 _,.here p,hp⟩
theorem we (mask:Nat):∀(m:Nat) (p:Probe),p.more=m->p.dummy=none->mE mask (m+1) p=cG mask (leap mask p.i p.perturb).1 (leap mask p.i p.perturb).2:=by
 intro m
 induction m with
 | zero =>
  intro p h d
  show adv mask p=_
  unfold adv
  rw[if_neg (by lia)]
  obtain ⟨j,mo,i,pe,dm⟩:=p
  cases d
  rfl
 | succ m ih =>
  intro p h d
  show mE mask (m+1) (adv mask p)=_
  have e:adv mask p={ p with j:=p.j+1,more:=p.more-1 }:=by unfold adv;rw[if_pos (by lia)]
  rw[e]
  exact ih _ (by dsimp only;lia) d
def bW (mask:Nat):Nat->Nat×Nat->Nat×Nat
 | 0,x=>x
 | k+1,x=>bW mask k (leap mask x.1 x.2)
theorem lh (mask:Nat):∀(a b:Nat) (x:Nat×Nat),bW mask (a+b) x=bW mask b (bW mask a x)
 | 0,b,x=>by rw[DN];rfl
 | a+1,b,x=>by rw[show a+1+b=(a+b)+1 by lia];exact lh mask a b _
theorem more_le (mask i:Nat):runEnd mask i-i<=9:=by unfold runEnd;split <;> lia
theorem pA (mask:Nat):∀(k i pe:Nat),∃n,n<=10*k/\mE mask n (cG mask i pe)=cG mask (bW mask k (i,pe)).1 (bW mask k (i,pe)).2:=by
 intro k
 induction k with
 | zero=>intro i pe;exact ⟨0,by lia,rfl⟩
 | succ k ih =>
  intro i pe
  obtain ⟨n,h1,h2⟩:=ih (leap mask i pe).1 (leap mask i pe).2
  refine ⟨(runEnd mask i-i+1)+n,by have:=more_le mask i;lia,?_⟩
  rw[nU,we mask (runEnd mask i-i) (cG mask i pe) rfl rfl]
  exact h2
theorem fY (mask:Nat):∀(k i pe:Nat),(bW mask k (i,pe)).2=pe/32 ^ k
 | 0,i,pe=>by simp[bW]
 | k+1,i,pe=>by
  show (bW mask k (leap mask i pe)).2=_
  rw[show leap mask i pe=((leap mask i pe).1,pe/32) from rfl,fY mask k,Nat.div_div_eq_div_mul,Nat.pow_succ,Nat.mul_comm 32]
theorem nV (mask:Nat):∀(k i pe:Nat),i<=mask->(bW mask k (i,pe)).1<=mask
 | 0,i,pe,h=>h
 | k+1,i,pe,h=>by
  show (bW mask k (leap mask i pe)).1<=mask
  rw[show leap mask i pe=((leap mask i pe).1,pe/32) from rfl]
  exact nV mask k _ _ (Dw (EB _ (Ef mask)))
def ste (m i:Nat):Nat:=(i*5+1)%m
def its (m:Nat):Nat->Nat->Nat
 | 0,i=>i
 | n+1,i=>its m n (ste m i)
theorem i5 (m:Nat):∀(a b i:Nat),its m (a+b) i=its m b (its m a i)
 | 0,b,i=>by rw[DN];rfl
 | a+1,b,i=>by rw[show a+1+b=(a+b)+1 by lia];exact i5 m a b _
def orb (m:Nat):Nat->Nat->List Nat
 | 0,_=>[]
 | n+1,i=>i :: orb m n (ste m i)
theorem mF (m:Nat):∀(n i j:Nat),j∈orb m n i->∃r,r<n/\its m r i=j
 | 0,i,j,h=>by cases h
 | n+1,i,j,h=>by
  rcases AJ.mp h with h | h
  ·exact ⟨0,by lia,h.symm⟩
  ·obtain ⟨r,a,b⟩:=mF m n _ _ h
   exact ⟨r+1,by lia,b⟩
def whole (m:Nat):Bool:=((Bv m).all λj=>(orb m m 0).contains j) && (its m m 0 == 0)
theorem rW {m:Nat}(h:whole m=true){i j:Nat}(hi:i<m)(hj:j<m):∃r,r<m/\its m r i=j:=by
 unfold whole at h
 rw[BD,Dg,beq_iff_eq] at h
 obtain ⟨h1,h2⟩:=h
 obtain ⟨a,a1,a2⟩:=mF m m 0 i (FZ.mp (h1 i (BA.mpr hi)))
 obtain ⟨b,b1,b2⟩:=mF m m 0 j (FZ.mp (h1 j (BA.mpr hj)))
 by_cases hab:a<=b
 ·refine ⟨b-a,by lia,?_⟩
  rw[<- a2, <- i5,show a+(b-a)=b by lia]
  exact b2
 ·refine ⟨m+b-a,by lia,?_⟩
  rw[<- a2, <- i5,show a+(m+b-a)=m+b by lia,i5,h2]
  exact b2
theorem yA:whole 8=true:=by decide +kernel
theorem wg:whole 32=true:=by decide +kernel
theorem uz:whole 128=true:=by decide +kernel
theorem uA:whole 512=true:=by decide +kernel
def Msk (mask:Nat):Prop:=mask=7\/mask=31\/mask=127\/mask=511
theorem Msk.whole {mask:Nat}(h:Msk mask):whole (mask+1)=true:=by
 rcases h with rfl | rfl | rfl | rfl
 ·exact yA
 ·exact wg
 ·exact uz
 ·exact uA
theorem lj (mask:Nat):∀(r i:Nat),bW mask r (i,0)=(its (mask+1) r i,0)
 | 0,i=>rfl
 | r+1,i=>by
  show bW mask r (leap mask i 0)=_
  rw[show leap mask i 0=(ste (mask+1) i,0) from rfl,lj mask r];rfl
theorem wj (h:Int):bits h<2 ^ 64:=by
 unfold bits
 have h1:=BP h (show (0:Int)<2 ^ 64 by decide)
 have h0:=BU h (show (2 ^ 64:Int)≠0 by decide)
 have:((2 ^ 64:Nat):Int)=2 ^ 64:=by decide
 lia
theorem jN {mask:Nat}(hm:Msk mask){h:Int}{j:Nat}(hj:j<=mask):∃k,k<turns mask/\(bW mask k (bits h%(mask+1),bits h)).1=j:=by
 have p0:(bW mask 13 (bits h%(mask+1),bits h)).2=0:=by
  rw[fY]
  exact Nat.div_eq_of_lt (Ax (wj h) (by decide))
 have i0:=nV mask 13 (bits h%(mask+1)) (bits h) (Dw (EB _ (Ef mask)))
 obtain ⟨r,r1,r2⟩:=rW hm.whole (i:=(bW mask 13 (bits h%(mask+1),bits h)).1) (j:=j) (by lia) (by lia)
 refine ⟨13+r,by unfold turns;lia,?_⟩
 rw[lh,show bW mask 13 (bits h%(mask+1),bits h)=((bW mask 13 (bits h%(mask+1),bits h)).1,0) from HR rfl p0,lj]
 exact r2
theorem uB {mask:Nat}(hm:Msk mask)(oc:Nat->Prop)(h:Int){j:Nat}(hj:j<=mask)(he:¬ oc j):∃n q,n<10*turns mask/\Way oc mask n (start mask h) q/\¬ oc q.j/\q.j<=mask/\q.dummy=none:=by
 obtain ⟨k,k1,k2⟩:=jN hm (h:=h) hj
 obtain ⟨n,n1,n2⟩:=pA mask k (bits h%(mask+1)) (bits h)
 obtain ⟨n',q,a,b,c⟩:=rV oc mask n (start mask h) (by
  show ¬ oc (mE mask n (cG mask _ _)).j
  rw[n2]
  show ¬ oc (bW mask k (bits h%(mask+1),bits h)).1
  rw[k2]
  exact he)
 exact ⟨n',q,by lia,b,c,b.le (nT mask h),b.dummy⟩
theorem lp {mask n:Nat}(oc:Nat->Prop)(f:Nat->Nat)(hf:∀j,j<=mask->oc j->f j<n)(inj:∀i j,i<=mask->j<=mask->oc i->oc j->f i=f j->i=j)(hn:n<=mask):∃j,j<=mask/\¬ oc j:=by
 by_cases q:∃j,j<=mask/\¬ oc j
 ·exact q
 ·exfalso
  have all:∀j,j<=mask->oc j:=λj hj=>by
   by_cases o:oc j
   ·exact o
   ·exact absurd ⟨j,hj,o⟩ q
  have nd:((Bv (mask+1)).map f).Nodup:=by
   unfold List.Nodup
   rw[BX]
   refine Eg (λ{a b} ha hb hab e=>hab (inj a b ?_ ?_ (all _ ?_) (all _ ?_) e)) (Ho)
   all_goals (rw[BA] at ha hb;lia)
  have:=CF nd (l₂:=Bv n) (λx hx=>by
   obtain ⟨j,hj,e⟩:=Bc.mp hx
   rw[BA] at hj ⊢
   rw[<- e]
   exact hf j (by lia) (all j (by lia)))
  rw[z4,CW,CW] at this
  lia
open PySem PySem.SetTable
structure Tab (t:SetTable)(hs:Array Int):Prop where
 dm:t.dummies = #[]
 rise:mC t.place
 size:t.place.size=hs.size
 le:∀i j:Nat,t.place[i]? = some j->j<=t.mask
 msk:Msk t.mask
 fit:hs.size<=t.mask
 reach:∀(i j:Nat) (h:Int),t.place[i]? = some j->hs[i]? = some h->∃n q,Way (occ t) t.mask n (start t.mask h) q/\q.j=j
theorem dB {α:Type}{xs:Array α}{i:Nat}{a:α}(h:xs[i]? = some a):i<xs.size:=by
 apply DY;intro q;rw[De q] at h;cases h
theorem Tab.fill {t:SetTable}{hs:Array Int}(T:Tab t hs):t.fill=hs.size:=by
 unfold SetTable.fill;rw[T.dm,T.size];rfl
theorem Tab.fits {t:SetTable}{hs:Array Int}(T:Tab t hs):t.fits hs.size=true:=by
 unfold SetTable.fits
 rw[T.fill,T.size]
 simp[T.fit]
theorem Tab.ends {t:SetTable}{hs:Array Int}(T:Tab t hs)(h:Int):∃n q,n<10*turns t.mask/\Way (occ t) t.mask n (start t.mask h) q/\¬ occ t q.j/\q.j<=t.mask/\q.dummy=none:=by
 obtain ⟨j,hj,he⟩:=lp (mask:=t.mask) (n:=hs.size) (occ t) (λj=>below t.place j)
  (λj _ ⟨i,e⟩=>by show below t.place j<hs.size;rw[below_at T.rise e, <- T.size];exact dB e)
  (λi j _ _ ⟨a,ea⟩ ⟨b,eb⟩ e=>by
   have e':below t.place i=below t.place j:=e
   rw[below_at T.rise ea,below_at T.rise eb] at e'
   subst e'
   exact AI (ea.symm.trans eb)) T.fit
 exact uB T.msk (occ t) h hj he
theorem uC {t:SetTable}{hs:Array Int}(T:Tab t hs){H:Nat->Int}{h:Int}:∀(n:Nat) (p q:Probe) (fuel:Nat),Way (occ t) t.mask n p q->¬ occ t q.j->n<fuel->p.dummy=none →
  (SetTable.probe.go t H h fuel p=some (.empty q.j none)/\∀k r i,Way (occ t) t.mask k p r->t.place[i]? = some r.j->H i≠h) ∨
  (∃k r i,k<n/\Way (occ t) t.mask k p r/\t.place[i]? = some r.j/\H i=h/\SetTable.probe.go t H h fuel p=some (.candidate r.j i (adv t.mask r))/\Way (occ t) t.mask (n-k-1) (adv t.mask r) q/\(adv t.mask r).dummy=none
   /\ ∀k' r' i',k'<k->Way (occ t) t.mask k' p r'->t.place[i']? = some r'.j->H i'≠h):=by
 intro n
 induction n with
 | zero =>
  intro p q fuel W he hf hd
  cases W
  obtain ⟨fuel,rfl⟩:∃f,fuel=f+1:=⟨fuel-1,by lia⟩
  refine .inl ⟨?_,λk r i Wr er =>?_⟩
  ·unfold SetTable.probe.go
   rw[pz T.dm he]
   dsimp only
   rw[hd]
  ·cases Wr with
   | here=>exact absurd ⟨i,er⟩ he
   | step a _=>exact absurd a he
 | succ n ih =>
  intro p q fuel W he hf hd
  obtain ⟨fuel,rfl⟩:∃f,fuel=f+1:=⟨fuel-1,by lia⟩
  cases W with
  | step a W =>
   obtain ⟨i,ei⟩:=a
   have hd':(adv t.mask p).dummy=none:=by rw[<- hd];unfold adv;split <;> rfl
   by_cases hh:H i=h
   ·refine .inr ⟨0,p,i,by lia,.here p,ei,hh,?_,W,hd',λk' r' i' hk=>by lia⟩
    unfold SetTable.probe.go
    rw[ik T.rise ei]
    dsimp only
    rw[if_pos (by rw[hh];exact beq_self_eq_true h)]
    rfl
   ·have e0:SetTable.probe.go t H h (fuel+1) p=SetTable.probe.go t H h fuel (adv t.mask p):=by
     conv=>lhs;unfold SetTable.probe.go
     rw[ik T.rise ei]
     dsimp only
     rw[if_neg (by rw[beq_iff_eq];exact hh)]
     rfl
    rcases ih (adv t.mask p) q fuel W he (by lia) hd' with ⟨r1,r2⟩ | ⟨k,r,i',k1,w1,e1,h1,g1,w2,d2,no⟩
    ·refine .inl ⟨e0.trans r1,λk r j Wr er =>?_⟩
     cases Wr with
     | here =>
      obtain rfl:i=j:=by
       have x:=below_at T.rise ei
       have y:=below_at T.rise er
       exact x.symm.trans y
      exact hh
     | step _ Wr=>exact r2 _ _ _ Wr er
    ·refine .inr ⟨k+1,r,i',by lia,.step ⟨i,ei⟩ w1,e1,h1,e0.trans g1,by rw[show n+1-(k+1)-1=n-k-1 by lia];exact w2,d2,λk' r' j hk Wr er =>?_⟩
     cases Wr with
     | here =>
      obtain rfl:i=j:=by
       have x:=below_at T.rise ei
       have y:=below_at T.rise er
       exact x.symm.trans y
      exact hh
     | step _ Wr=>exact no _ _ _ (by lia) Wr er
theorem uD {t:SetTable}{hs:Array Int}(T:Tab t hs){H:Nat->Int}{h:Int}{n:Nat}{p q:Probe}(W:Way (occ t) t.mask n p q)(he:¬ occ t q.j)(hn:n<10*turns t.mask)(hd:p.dummy=none) :
  (t.probe H h p=some (.empty q.j none)/\∀k r i,Way (occ t) t.mask k p r->t.place[i]? = some r.j->H i≠h) ∨
  (∃k r i,k<n/\Way (occ t) t.mask k p r/\t.place[i]? = some r.j/\H i=h/\t.probe H h p=some (.candidate r.j i (adv t.mask r))/\Way (occ t) t.mask (n-k-1) (adv t.mask r) q/\(adv t.mask r).dummy=none
   /\ ∀k' r' i',k'<k->Way (occ t) t.mask k' p r'->t.place[i']? = some r'.j->H i'≠h) :=
 uC T n p q _ W he hn hd
theorem Tab.yB {t:SetTable}{hs:Array Int}(T:Tab t hs)(j:Nat):t.put j=({ t with place:=insertAt t.place (below t.place j) j },below t.place j):=by
 unfold SetTable.put
 dsimp only
 have:has t.dummies j=false:=by rw[T.dm];simp[has]
 rw[this]
 rfl
theorem Tab.put {t:SetTable}{hs:Array Int}(T:Tab t hs){h:Int}{n:Nat}{q:Probe}(W:Way (occ t) t.mask n (start t.mask h) q)(he:¬ occ t q.j)(hq:q.j<=t.mask)(hf:hs.size+1<=t.mask) :
  Tab { t with place:=insertAt t.place (below t.place q.j) q.j } (insertAt hs (below t.place q.j) h):=by
 have hp:=(cX T.rise q.j).1
 have hp':below t.place q.j<=hs.size:=by rw[<- T.size];exact hp
 have up:∀j,occ t j->occ { t with place:=insertAt t.place (below t.place q.j) q.j } j:=by
  rintro j ⟨i,e⟩
  by_cases l:i<below t.place q.j
  ·exact ⟨i,by show (insertAt _ _ _)[i]? = _;rw[bO _ hp,if_pos l];exact e⟩
  ·exact ⟨i+1,by show (insertAt _ _ _)[i+1]? = _;rw[bO _ hp,if_neg (by lia),if_neg (by lia)];exact e⟩
 refine ⟨T.dm,ku T.rise λi e=>he ⟨i,e⟩,?_,λi j e =>?_,T.msk,by rw[cC];exact hf,λi j h' e eh =>?_⟩
 ·show (insertAt _ _ _).size=_
  rw[cC,cC,T.size]
 ·have e':(insertAt t.place (below t.place q.j) q.j)[i]? = some j:=e
  rw[bO _ hp] at e'
  split at e'
  ·exact T.le _ _ e'
  ·split at e'
   ·cases e';exact hq
   ·exact T.le _ _ e'
 ·have e':(insertAt t.place (below t.place q.j) q.j)[i]? = some j:=e
  rw[bO _ hp] at e'
  rw[bO _ hp'] at eh
  by_cases l1:i<below t.place q.j
  ·rw[if_pos l1] at e' eh
   obtain ⟨n',q',w,eq⟩:=T.reach _ _ _ e' eh
   exact ⟨n',q',w.mono up,eq⟩
  ·rw[if_neg l1] at e' eh
   by_cases l2:i=below t.place q.j
   ·rw[if_pos l2] at e' eh
    cases e';cases eh
    exact ⟨n,q,W.mono up,rfl⟩
   ·rw[if_neg l2] at e' eh
    obtain ⟨n',q',w,eq⟩:=T.reach _ _ _ e' eh
    exact ⟨n',q',w.mono up,eq⟩
def ocw (owner:Array (Option Nat))(j:Nat):Prop:=∃k,owner[j]? = some (some k)
theorem Way.trans {oc:Nat->Prop}{mask n m:Nat}{p q r:Probe}(h:Way oc mask n p q)(h2:Way oc mask m q r):∃k,Way oc mask k p r:=by
 induction h with
 | here=>exact ⟨m,h2⟩
 | step a _ ih=>obtain ⟨k,w⟩:=ih h2;exact ⟨k+1,.step a w⟩
theorem mG (oc:Nat->Prop)(mask:Nat):∀(k:Nat) (p:Probe),k<=p.more->(∀k',k'<k->oc (p.j+k'))->Way oc mask k p { p with j:=p.j+k,more:=p.more-k }
 | 0,p,_,_ =>.here p
 | k+1,p,h,ho=>by
  have e:adv mask p={ p with j:=p.j+1,more:=p.more-1 }:=by unfold adv;rw[if_pos (by lia)]
  refine .step (ho 0 (by lia)) ?_
  rw[e]
  have:=mG oc mask k { p with j:=p.j+1,more:=p.more-1 } (by dsimp only;lia) λk' hk=>by
   have:=ho (k'+1) (by lia)
   rw[show p.j+(k'+1)=p.j+1+k' by lia] at this
   exact this
  dsimp only at this
  rw[show p.j+1+k=p.j+(k+1) by lia,show p.more-1-k=p.more-(k+1) by lia] at this
  exact this
theorem eP {owner:Array (Option Nat)}{mask j:Nat}(hs:owner.size=mask+1)(hj:j<=mask):(owner.getD j (some 0)).isNone=true↔¬ ocw owner j:=by
 have hl:j<owner.size:=by lia
 have e:owner[j]? = some owner[j]:=AG hl
 rw[show owner.getD j (some 0)=owner[j] by simp[Array.getD,hl]]
 unfold ocw
 rw[e]
 cases owner[j] with
 | none=>simp
 | some k=>simp
theorem lq {mask i:Nat}(h:i<=mask):runEnd mask i<=mask/\i<=runEnd mask i:=by
 unfold runEnd;split <;> lia
theorem rX {mask:Nat}{owner:Array (Option Nat)}(hs:owner.size=mask+1):∀(fuel i pe j:Nat),i<=mask->SetTable.layClean.free mask owner fuel i pe=some j →
  ¬ ocw owner j/\∃n q,Way (ocw owner) mask n (cG mask i pe) q/\q.j=j:=by
 intro fuel
 induction fuel with
 | zero=>intro i pe j hi h;unfold SetTable.layClean.free at h;cases h
 | succ fuel ih =>
  intro i pe j hi h
  unfold SetTable.layClean.free at h
  obtain ⟨r1,r2⟩:=lq hi
  have no:∀k,k<runEnd mask i+1-i->((owner.getD (i+k) (some 0)).isNone=false)->ocw owner (i+k):=λk hk e=>by
   by_cases o:ocw owner (i+k)
   ·exact o
   ·rw[(eP hs (by lia)).mpr o] at e;cases e
  cases hf:(Bv (runEnd mask i+1-i)).find? λk=>(owner.getD (i+k) (some 0)).isNone with
  | some k =>
   rw[hf] at h
   dsimp only at h
   cases h
   rw[List.find?_range_eq_some] at hf
   obtain ⟨f1,f2,f3⟩:=hf
   rw[BA] at f2
   refine ⟨(eP hs (by lia)).mp f1,k,_,mG (ocw owner) mask k (cG mask i pe) (by show k<=runEnd mask i-i;lia) λk' hk =>?_,rfl⟩
   refine no k' (by lia) ?_
   have:=f3 k' hk
   simpa using this
  | none =>
   rw[hf] at h
   dsimp only at h
   rw[Fn] at hf
   have all:∀k,k<runEnd mask i+1-i->ocw owner (i+k):=λk hk=>no k hk (by simpa using hf k hk)
   obtain ⟨g1,n,q,w,eq⟩:=ih _ _ _ (Dw (EB _ (Ef mask))) h
   refine ⟨g1,?_⟩
   have w0:=mG (ocw owner) mask (runEnd mask i-i) (cG mask i pe) (Ag _) λk' hk=>all k' (by lia)
   have w1:Way (ocw owner) mask (n+1) { (cG mask i pe) with j:=(cG mask i pe).j+(runEnd mask i-i),more:=(cG mask i pe).more-(runEnd mask i-i) } q:=by
    refine .step (all (runEnd mask i-i) (by lia)) ?_
    have e:adv mask { (cG mask i pe) with j:=(cG mask i pe).j+(runEnd mask i-i),more:=(cG mask i pe).more-(runEnd mask i-i) }=cG mask (leap mask i pe).1 (leap mask i pe).2:=by
     unfold adv
     rw[if_neg (by show ¬ (runEnd mask i-i-(runEnd mask i-i))>0;lia)]
     rfl
    rw[e]
    exact w
   obtain ⟨k,w2⟩:=w0.trans w1
   exact ⟨k,q,w2,eq⟩
theorem rY {mask:Nat}{owner:Array (Option Nat)}(hs:owner.size=mask+1):∀(fuel i pe k:Nat),i<=mask->k<fuel->¬ ocw owner (bW mask k (i,pe)).1->∃j,SetTable.layClean.free mask owner fuel i pe=some j:=by
 intro fuel
 induction fuel with
 | zero=>intro i pe k _ h;lia
 | succ fuel ih =>
  intro i pe k hi hk he
  unfold SetTable.layClean.free
  obtain ⟨r1,r2⟩:=lq hi
  cases hf:(Bv (runEnd mask i+1-i)).find? λk=>(owner.getD (i+k) (some 0)).isNone with
  | some k=>exact ⟨_,rfl⟩
  | none =>
   dsimp only
   rw[Fn] at hf
   cases k with
   | zero =>
    have h0:=hf 0 (by lia)
    have:(owner.getD (i+0) (some 0)).isNone=true:=(eP hs (by lia)).mpr he
    rw[this] at h0
    cases h0
   | succ k=>exact ih _ _ k (Dw (EB _ (Ef mask))) (by lia) he
structure Own (mask:Nat)(owner:Array (Option Nat))(hs:List Int):Prop where
 size:owner.size=mask+1
 cov:∀(k:Nat) (h:Int),hs[k]? = some h->∃j n q,owner[j]? = some (some k)/\Way (ocw owner) mask n (start mask h) q/\q.j=j
 bnd:∀j k:Nat,owner[j]? = some (some k)->k<hs.length
 inj:∀i j k:Nat,owner[i]? = some (some k)->owner[j]? = some (some k)->i=j
theorem Own.step {mask:Nat}(hm:Msk mask){owner:Array (Option Nat)}{hs:List Int}(O:Own mask owner hs)(h:Int)(hl:hs.length<=mask) :
  ∃j,SetTable.layClean.free mask owner (turns mask) (bits h%(mask+1)) (bits h)=some j/\Own mask (owner.setIfInBounds j (some hs.length)) (hs++[h]):=by
 obtain ⟨e,he,hne⟩:=lp (mask:=mask) (n:=hs.length) (ocw owner) (λj=>(owner.getD j none).getD 0)
  (λj _ ⟨k,ek⟩=>by
   have:=dB ek
   show (owner.getD j none).getD 0<_
   rw[show owner.getD j none=some k by rw[Co,ek];rfl]
   exact O.bnd j k ek)
  (λi j _ _ ⟨a,ea⟩ ⟨b,eb⟩ q=>by
   have q':(owner.getD i none).getD 0=(owner.getD j none).getD 0:=q
   rw[show owner.getD i none=some a by rw[Co,ea];rfl,show owner.getD j none=some b by rw[Co,eb];rfl] at q'
   have q'':a=b:=q'
   subst q''
   exact O.inj i j a ea eb) hl
 have i0:bits h%(mask+1)<=mask:=Dw (EB _ (Ef mask))
 obtain ⟨k,k1,k2⟩:=jN hm (h:=h) he
 obtain ⟨j,hj⟩:=rY O.size (turns mask) _ _ k i0 k1 (by rw[k2];exact hne)
 obtain ⟨hno,n,q,w,eq⟩:=rX O.size _ _ _ _ i0 hj
 have hjm:j<=mask:=by rw[<- eq];exact w.le (nT mask h)
 have hjs:j<owner.size:=by rw[O.size];lia
 have ej:owner[j]? = some none:=by
  rw[AG hjs]
  cases ho:owner[j] with
  | none=>rfl
  | some k=>exact absurd ⟨k,by rw[AG hjs,ho]⟩ hno
 have get:∀i:Nat,(owner.setIfInBounds j (some hs.length))[i]? = if i=j then some (some hs.length) else owner[i]? := λi=>by
  rw[Array.getElem?_setIfInBounds]
  by_cases q:j=i
  ·rw[if_pos q,if_pos q.symm,if_pos hjs]
  ·rw[if_neg q,if_neg (B4 q)]
 have up:∀i,ocw owner i->ocw (owner.setIfInBounds j (some hs.length)) i:=by
  rintro i ⟨k,ek⟩
  refine ⟨k,?_⟩
  rw[get,if_neg (λq=>by rw[q,ej] at ek;cases ek)]
  exact ek
 refine ⟨j,hj,by rw[Fm];exact O.size,λk h' eh =>?_,λi k ek =>?_,λi i' k ei ei' =>?_⟩
 ·by_cases lk:k<hs.length
  ·rw[AW lk] at eh
   obtain ⟨j',n',q',a,b,c⟩:=O.cov k h' eh
   refine ⟨j',n',q',?_,b.mono up,c⟩
   rw[get,if_neg (λq=>by rw[q,ej] at a;cases a)]
   exact a
  ·rw[A0 (by lia)] at eh
   have:k-hs.length=0:=by
    cases hk:k-hs.length with
    | zero=>rfl
    | succ m=>rw[hk] at eh;cases eh
   rw[this] at eh
   cases eh
   obtain rfl:k=hs.length:=by lia
   exact ⟨j,n,q,by rw[get,if_pos rfl],w.mono up,eq⟩
 ·rw[Ae,BH]
  rw[get] at ek
  split at ek
  ·cases ek;lia
  ·have:=O.bnd _ _ ek;lia
 ·rw[get] at ei ei'
  by_cases q1:i=j
  ·by_cases q2:i'=j
   ·rw[q1,q2]
   ·rw[if_pos q1] at ei;rw[if_neg q2] at ei'
    cases ei
    have:=O.bnd _ _ ei';lia
  ·rw[if_neg q1] at ei
   by_cases q2:i'=j
   ·rw[if_pos q2] at ei'
    cases ei'
    have:=O.bnd _ _ ei;lia
   ·rw[if_neg q2] at ei'
    exact O.inj _ _ _ ei ei'
theorem nW {mask:Nat}(hm:Msk mask):∀(l:List Int) (owner:Array (Option Nat)) (hs:List Int),Own mask owner hs->hs.length+l.length<=mask+1 →
    ∃owner',l.foldl (λacc h=>do
      let (owner,k) ← acc
      let j ← SetTable.layClean.free mask owner (turns mask) (bits h%(mask+1)) (bits h)
      pure (owner.setIfInBounds j (some k),k+1)) (some (owner,hs.length))=some (owner',hs.length+l.length)/\Own mask owner' (hs++l)
  | [],owner,hs,O,_=>⟨owner,rfl,by rw[AU];exact O⟩
  | h :: l,owner,hs,O,hl=>by
    rw[AR] at hl
    obtain ⟨j,hj,O'⟩:=O.step hm h (by lia)
    obtain ⟨owner',e,O''⟩:=nW hm l _ _ O' (by rw[Ae,BH];lia)
    refine ⟨owner',?_,by rw[A1] at O'';exact O''⟩
    rw[FU]
    have:(do
      let (owner,k) ← some (owner,hs.length)
      let j ← SetTable.layClean.free mask owner (turns mask) (bits h%(mask+1)) (bits h)
      pure (owner.setIfInBounds j (some k),k+1):Option (Array (Option Nat)×Nat))=some (owner.setIfInBounds j (some hs.length),(hs++[h]).length):=by
      show (SetTable.layClean.free mask owner (turns mask) (bits h%(mask+1)) (bits h)).bind _=_
      rw[hj,Ae]
      rfl
    rw[this,e]
    rw[Ae,BH,AR]
    congr 2
    lia
theorem nX {mask:Nat}(hm:Msk mask)(hs:Array Int)(hl:hs.size<=mask+1):∃owner,SetTable.layClean mask hs=some owner/\Own mask owner hs.toList:=by
  have O0:Own mask (Array.replicate (mask+1) none) []:=by
    refine ⟨by simp,λk h e=>by simp at e,λj k e =>?_,λi j k e =>?_⟩
    · rw[Fo] at e;split at e <;> cases e
    · rw[Fo] at e;split at e <;> cases e
  obtain ⟨owner,e,O⟩:=nW hm hs.toList _ [] O0 (by rw[Ck,Ai];lia)
  refine ⟨owner,?_,by rw[Eo] at O;exact O⟩
  unfold SetTable.layClean
  rw[<- Array.foldl_toList]
  have e':hs.toList.foldl (λacc h=>do
      let (owner,k) ← acc
      let j ← SetTable.layClean.free mask owner (turns mask) (bits h%(mask+1)) (bits h)
      pure (owner.setIfInBounds j (some k),k+1)) (some (Array.replicate (mask+1) none,0))=some (owner,0+hs.toList.length):=e
  rw[e']
  rfl
theorem filterMap_get {α β:Type}{f:α -> Option β}:∀(l:List α),(∀x∈l,(f x).isSome=true)->∀i:Nat,(l.filterMap f)[i]? = l[i]?.bind f
 | [],_,i=>by simp
 | x :: l,h,i=>by
  obtain ⟨y,hy⟩:=Ed.mp (h x AN)
  rw[List.filterMap_cons_some hy]
  cases i with
  | zero=>simp[hy]
  | succ i =>
   rw[CQ,CQ]
   exact filterMap_get l (λz hz=>h z (AK _ hz)) i
theorem wm {mask:Nat}(hm:Msk mask)(finger moves:Nat)(led plain:Bool)(es:Array (Int×z9))(hl:es.size<=mask) :
  ∃t order,SetTable.laid mask finger moves led plain (es.map (·.1))=some (t,order)/\order.toList.Perm (Bv es.size)/\Tab t ((order.filterMap (es[·]?)).map (·.1))/\(order.filterMap (es[·]?)).toList.Perm es.toList/\t.led=led/\t.plain=plain/\t.mask=mask:=by
 obtain ⟨owner,e,O⟩:=nX hm (es.map (·.1)) (by rw[BG];lia)
 refine ⟨_,_,by unfold SetTable.laid;rw[e];rfl,?_⟩
 generalize hlive:((Bv (mask+1)).filterMap λj=>(owner.getD j none).map (j, ·))=live
 have mem:∀j k,(j,k)∈live↔owner[j]? = some (some k):=λj k=>by
  rw[<- hlive,Ej]
  constructor
  ·rintro ⟨a,ha,ea⟩
   rw[Co] at ea
   cases ho:owner[a]? with
   | none=>rw[ho] at ea;cases ea
   | some x =>
    rw[ho] at ea
    cases x with
    | none=>cases ea
    | some k'=>cases ea;exact ho
  ·intro ho
   refine ⟨j,?_,?_⟩
   ·rw[BA, <- O.size];exact dB ho
   ·rw[Co,ho];rfl
 have pw:live.Pairwise (λa b=>a.1<b.1):=by
  rw[<- hlive,List.pairwise_filterMap]
  refine Ik (λ{a b} hab x hx y hy =>?_) List.pairwise_lt_range
  have hx':x.1=a:=by cases ho:owner.getD a none with
   | none=>rw[ho] at hx;cases hx
   | some k=>rw[ho] at hx;cases hx;rfl
  have hy':y.1=b:=by cases ho:owner.getD b none with
   | none=>rw[ho] at hy;cases hy
   | some k=>rw[ho] at hy;cases hy;rfl
  rw[hx',hy'];exact hab
 have nd:(live.map (·.2)).Nodup:=by
  unfold List.Nodup
  rw[BX]
  refine Eg (λ{a b} ha hb hab q =>?_) pw
  have:=O.inj a.1 b.1 a.2 ((mem _ _).mp ha) (by rw[q];exact (mem _ _).mp hb)
  lia
 have hlen:(es.map (·.1)).toList.length=es.size:=by rw[Ai,BG]
 have perm:(live.map (·.2)).Perm (Bv es.size):=by
  rw[List.perm_ext_iff_of_nodup nd Ho]
  intro k
  rw[BA,Bc]
  constructor
  ·rintro ⟨⟨j,k'⟩,hm',rfl⟩
   have:=O.bnd _ _ ((mem _ _).mp hm')
   rw[hlen] at this
   exact this
  ·intro hk
   obtain ⟨j,_,_,ej,_⟩:=O.cov k _ (Ab (by rw[hlen];exact hk))
   exact ⟨(j,k),(mem _ _).mpr ej,rfl⟩
 have all:∀x∈live.map (·.2),(es[x]?).isSome=true:=λx hx=>by
  have:=(perm.mem_iff).mp hx
  rw[BA] at this
  rw[AG this];rfl
 have tl:(live.map (·.2)).toArray.toList=live.map (·.2):=rfl
 have ll:live.length=es.size:=by have:=perm.length_eq;rw[z4,CW] at this;exact this
 have fm:((live.map (·.2)).toArray.filterMap (es[·]?)).toList=(live.map (·.2)).filterMap (es[·]?):=by simp
 have fl:((live.map (·.2)).filterMap (es[·]?)).Perm es.toList:=by
  have p1:=perm.filterMap (es[·]?)
  have:(Bv es.size).filterMap (es[·]?)=es.toList:=by
   apply EA
   intro i
   rw[filterMap_get _ (λx hx=>by rw[BA] at hx;rw[AG hx];rfl)]
   by_cases hi:i<es.size
   ·rw[Gn hi,Ap];rfl
   ·rw[Bx (by rw[CW];lia),Bx (by rw[Ai];lia)];rfl
  rw[this] at p1
  exact p1
 refine ⟨perm,?_,by rw[fm];exact fl,rfl,rfl,rfl⟩
 have sz:(((live.map (·.2)).toArray.filterMap (es[·]?)).map (·.1)).size=es.size:=by
  rw[BG, <- Ai,fm,fl.length_eq,Ai]
 have occ_of:∀j,ocw owner j->occ { mask:=mask,place:=(live.map (·.1)).toArray,dummies := #[],finger:=finger,led:=led,moves:=moves,plain:=plain } j:=by
  rintro j ⟨k,ek⟩
  obtain ⟨i,hi,ei⟩:=D9 ((mem j k).mpr ek)
  refine ⟨i,?_⟩
  show (live.map (·.1)).toArray[i]? = some j
  rw[BI,Aw,Ab hi,ei]
  rfl
 refine ⟨rfl,λi j a b ea eb hij =>?_,?_,λi j ej =>?_,hm,by rw[sz];exact hl,λi j h ej eh =>?_⟩
 ·have ea':(live.map (·.1)).toArray[i]? = some a:=ea
  have eb':(live.map (·.1)).toArray[j]? = some b:=eb
  rw[BI] at ea' eb'
  have pw':(live.map (·.1)).Pairwise (· < ·):=by rw[BX];exact pw
  obtain ⟨hi,xi⟩:=Af.mp ea'
  obtain ⟨hj,xj⟩:=Af.mp eb'
  rw[<- xi, <- xj]
  exact Dp.mp pw' i j hi hj hij
 ·show (live.map (·.1)).toArray.size=_
  rw[sz,Ad,z4,ll]
 ·have ej':(live.map (·.1)).toArray[i]? = some j:=ej
  rw[BI,Aw] at ej'
  cases hx:live[i]? with
  | none=>rw[hx] at ej';cases ej'
  | some x =>
   rw[hx] at ej'
   cases ej'
   have:=dB ((mem x.1 x.2).mp (Aj hx))
   show x.1<=mask
   rw[O.size] at this
   lia
 ·have ej':(live.map (·.1)).toArray[i]? = some j:=ej
  rw[BI,Aw] at ej'
  cases hx:live[i]? with
  | none=>rw[hx] at ej';cases ej'
  | some x =>
   rw[hx] at ej'
   cases ej'
   have ho:=(mem x.1 x.2).mp (Aj hx)
   have hk:=O.bnd _ _ ho
   rw[GG, <- Ap,fm,filterMap_get _ all,Aw,hx] at eh
   have eh':(es[x.2]?).map (·.1)=some h:=eh
   obtain ⟨j',n,q,a,b,c⟩:=O.cov x.2 h (by rw[EJ,Aw,Ap];exact eh')
   obtain rfl:=O.inj _ _ _ ho a
   exact ⟨n,q,b.mono occ_of,c⟩
open PySem PySem.SetTable PyProof.Rows
section
variable  {prog:Au}{w:AV}{A:Bd}{E:z9->Ac->Prop}{s:Ac}
abbrev TK (prog:Au)(w:AV):=IsTupleKey (prog:=prog) (w:=w) (intKind prog w)
def bR (prog:Au)(w:AV)(ks:List Int):Int:=tupleKeyHash (intKind prog w) ks
def aP (es:Array (Int×z9))(ep:Nat)(t:SetTable):Obj:={ cls :=.type "set",dict:=none,data :=.set es ep t }
def ElT (prog:Au)(w:AV)(h:Heap)(e:Int×z9)(ks:List Int):Prop:=∃b,e=(bR prog w ks,.ref b)/\TK prog w h ks b
theorem mH (d:Nat){v:z9}(h:carriedByValue v=true):ofAClassStatement d v=pure false:=by
 cases v with
 | ref a=>simp[carriedByValue] at h
 | _=>cases d <;> rfl
theorem gP {ks:List Int}{b:Addr}{Q:Bool->Ac->Prop}(hk:TK prog w s.heap ks b)(h:Q false s):AA (AM prog w) A (ofAClassStatement 8 (.ref b)) Q E s:=by
 have hT:=hk.typeIs
 obtain ⟨o,items,n,ho,_,hd,hi⟩:=hk
 unfold ofAClassStatement
 refine zY (Dm hT ?_)
 dsimp only
 rw[if_pos (by decide)]
 refine zY (Aa ?_)
 simp only[BW,Ay,if_false]
 refine zY (Dr ho hd ?_)
 dsimp only
 refine zY ?_
 rw[<- GH]
 refine DZ _ (λrest r s'=>r.1=none/\s'=s/\∀v∈rest,carriedByValue v=true) _ ?_ ?_ _ _ ⟨rfl,rfl,hi.byValue⟩
 ·rintro v rest r s' ⟨hr,rfl,hall⟩
  rw[mH _ (hall v AN)]
  refine zY (Aa ?_)
  simp only[Ay,if_false]
  exact Aa ⟨rfl,rfl,λu hu'=>hall u (AK _ hu')⟩
 ·rintro ⟨r1,r2⟩ s' ⟨hr,rfl,_⟩
  simp only at hr
  subst hr
  exact Aa h
theorem yC {ks:List Int}{b:Addr}{vs:List z9}{Q:Bool->Ac->Prop}(hk:TK prog w s.heap ks b)(hv:∀v∈vs,∃ks' b',v = .ref b'/\TK prog w s.heap ks' b')(h:Q false s) :
  AA (AM prog w) A (searchCouldBeSeen (.ref b) vs) Q E s:=by
 unfold searchCouldBeSeen
 refine zY ?_
 refine DZ _ (λrest r s'=>r.1=none/\s'=s/\∀v∈rest,∃ks' b',v = .ref b'/\TK prog w s.heap ks' b') _ ?_ ?_ _ _ ⟨rfl,rfl,hv⟩
 ·rintro v rest r s' ⟨hr,rfl,hall⟩
  obtain ⟨ks',b',rfl,hk'⟩:=hall v AN
  have go:∀u∈rest,∃ks' b',u = .ref b'/\TK prog w s'.heap ks' b':=λu hu'=>hall u (AK _ hu')
  dsimp only
  split
  ·exact Aa ⟨rfl,rfl,go⟩
  ·refine zY (F3 hk ?_)
   simp only[BW,Ay,if_false]
   refine zY (F3 hk' ?_)
   simp only[BW,Ay,if_false]
   refine zY (gP hk ?_)
   simp only[Ay,if_false]
   refine zY (gP hk' ?_)
   simp only[Ay,if_false]
   exact Aa ⟨rfl,rfl,go⟩
 ·rintro ⟨r1,r2⟩ s' ⟨hr,rfl,_⟩
  simp only at hr
  subst hr
  exact Aa h
theorem wo {m:Nat}(h:Msk m):(m%2 == 0)=false:=by rcases h with rfl | rfl | rfl | rfl <;> rfl
theorem bD {a:Addr}{es:Array (Int×z9)}{ep:Nat}{t:SetTable}{Q:(Array (Int×z9)×Nat×SetTable)->Ac->Prop}(ho:s.heap.get? a=some (aP es ep t))(T:Tab t (es.map (·.1)))(h:Q (es,ep,t) s) :
  AA (AM prog w) A (setState a) Q E s:=wpAny_setState_of ho rfl (by have:=T.fits;rwa [BG] at this) h
theorem pC (es:Array (Int×z9))(i:Nat)(e:Int×z9)(h:es[i]? = some e):(es.map (·.1))[i]? = some e.1:=by rw[GG,h];rfl
theorem Way.split {oc:Nat->Prop}{mask k:Nat}{p r:Probe}(h:Way oc mask k p r):∀{k':Nat} {r':Probe},Way oc mask k' p r'->k<=k'->Way oc mask (k'-k) r r':=by
 induction h with
 | here p=>intro k' r' h2 _;exact h2
 | @step n p q a _ ih =>
  intro k' r' h2 l
  cases h2 with
  | here=>lia
  | @step m _ _ _ h2=>rw[show m+1-(n+1)=m-n by lia];exact ih h2 (by lia)
theorem pD {a b:Addr}{es:Array (Int×z9)}{ep:Nat}{t:SetTable}{ks:List Int}{Q:SetFound->Ac->Prop}(hu:A.units<cLine)(ho:s.heap.get? a=some (aP es ep t))(T:Tab t (es.map (·.1)))
    (els:∀e∈es,∃ks',ElT prog w s.heap e ks') (hk:TK prog w s.heap ks b) {q:Probe} (he:¬ occ t q.j) :
    ∀(fuel n:Nat) (st:Option Probe) (p:Probe),st.getD (start t.mask (bR prog w ks))=p->Way (occ t) t.mask n p q->n<fuel->n<10*turns t.mask->p.dummy=none →
      ((∃(k:Nat) (r:Probe) (i:Nat) (e:Int×z9),Way (occ t) t.mask k p r/\t.place[i]? = some r.j/\es[i]? = some e/\ElT prog w s.heap e ks)->Q (.there none) s) →
      ((¬ ∃(k:Nat) (r:Probe) (i:Nat) (e:Int×z9),Way (occ t) t.mask k p r/\t.place[i]? = some r.j/\es[i]? = some e/\ElT prog w s.heap e ks)->Q (.free q.j false) s) →
      AA (AM prog w) A (setSearchFrom a (.ref b) (bR prog w ks) true fuel st) Q E s:=by
  intro fuel
  induction fuel with
  | zero=>intro n st p _ _ h;omega
  | succ fuel ih =>
    intro n st p hst W hn hn2 hd hit mis
    unfold setSearchFrom
    refine zY (bD ho T ?_)
    dsimp only
    rw[show t.gaveWay=false from wo T.msk]
    simp only[Ay,if_false]
    rw[show st.getD (t.probeStart (bR prog w ks))=p from hst]
    rcases uD T (H:=λi=>(es[i]?.map (·.1)).getD 0) (h:=bR prog w ks) W he hn2 hd with ⟨g,no⟩ | ⟨k,r,i,k1,w1,e1,h1,g,w2,d2,no⟩
    · erw [g]
      dsimp only
      refine Aa (mis ?_)
      rintro ⟨k,r,i,e,wr,er,ee,eb,rfl,_⟩
      refine no k r i wr er ?_
      show (es[i]?.map (·.1)).getD 0=_
      rw[ee]
      rfl
    · erw [g]
      dsimp only
      have hi:i<es.size:=by have:=dB e1;rw[T.size,BG] at this;exact this
      have ee:es[i]? = some es[i]:=AG hi
      obtain ⟨ks',b',eq,hk'⟩:=els es[i] (G3 hi)
      rw[eq] at ee
      have hh:bR prog w ks'=bR prog w ks:=by
        have h1':(es[i]?.map (·.1)).getD 0=bR prog w ks:=h1
        rw[ee] at h1'
        exact h1'
      have tail:AA (AM prog w) A (do
          let equal ← EM [Ar b'] (eqBool (.ref b') (.ref b))
          let (es',_,t') ← setState a
          if (true && equal)=true then return .there none
          let some same:=t'.sameMemory t.moves t.mask | unsupported "set.changed-during-lookup:is-the-new-block-at-the-old-address"
          let still ← match (if same then t'.slot r.j else .empty) with
            | .live i'=>match es'[i']? with
              | some (_,y')=>do pure (if ← isSame y' (.ref b') then some i' else none)
              | none=>pure none
            | _=>pure none
          match still with
          | none=>rule "set.search.anew";setSearchFrom a (.ref b) (bR prog w ks) true fuel none
          | some i'=>if equal then return .there (some i') else setSearchFrom a (.ref b) (bR prog w ks) true fuel (some (adv t.mask r))) Q E s:=by
        refine zY (Bw (GR hu hk' hk ?_))
        refine zY (bD ho T ?_)
        dsimp only
        by_cases hks:ks'=ks
        · subst hks
          rw[decide_eq_true rfl]
          simp only[Bool.and_self,if_true]
          exact Aa (hit ⟨k,r,i,_,w1,e1,ee,b',rfl,hk'⟩)
        · rw[decide_eq_false hks]
          simp only[CU,Ay,if_false]
          rw[show t.sameMemory t.moves t.mask=some true by unfold SetTable.sameMemory;simp]
          dsimp only
          simp only[if_true]
          rw[ik T.rise e1]
          dsimp only
          rw[ee]
          dsimp only
          refine zY (wpAny_isSame_ref_self (zY (Aa ?_)))
          simp only[if_true]
          refine ih (n-k-1) _ _ rfl w2 (by omega) (by omega) d2 (λx=>hit ?_) λx=>mis λy=>x ?_
          · obtain ⟨k',r',i',e',a1,a2,a3,a4⟩:=x
            obtain ⟨k'',w''⟩:=w1.trans (.step ⟨i,e1⟩ a1)
            exact ⟨k'',r',i',e',w'',a2,a3,a4⟩
          · obtain ⟨k',r',i',e',a1,a2,a3,a4⟩:=y
            have hx:(es[i']?.map (·.1)).getD 0=bR prog w ks:=by
              obtain ⟨bb,rfl,_⟩:=a4
              rw[a3];rfl
            by_cases lt:k'<k
            · exact absurd hx (no k' r' i' lt a1 a2)
            · have w3:=w1.split a1 (by omega)
              cases hd3:k'-k with
              | zero =>
                rw[hd3] at w3
                cases w3
                obtain rfl:i=i':=(below_at T.rise e1).symm.trans (below_at T.rise a2)
                obtain ⟨bb,rfl,hbb⟩:=a4
                rw[ee] at a3
                injection a3 with a3
                injection a3 with a31 a32
                injection a32 with a32
                subst a32
                exact absurd (hk'.inj hbb) hks
              | succ m =>
                rw[hd3] at w3
                cases w3 with
                | step _ w3=>exact ⟨m,r',i',e',w3,a2,a3,a4⟩
      cases hl:t.led with
      | true =>
        simp only[BW,Ay,if_false]
        rw[ee]
        exact tail
      | false =>
        simp only[Gi,if_true]
        refine zY (yC hk (λv hv =>?_) ?_)
        · obtain ⟨e',he',rfl⟩:=Bc.mp hv
          obtain ⟨ks2,b2,e2,hk2⟩:=els e' (Array.mem_of_mem_filter (BN.mp he'))
          exact ⟨ks2,b2,by rw[e2],hk2⟩
        · simp only[Ay,if_false]
          rw[ee]
          exact tail
end
open PySem PySem.SetTable PyProof.Rows
section
variable  {prog:Au}{w:AV}{A:Bd}{E:z9->Ac->Prop}{s:Ac}
def dk (w:AV)(h:Heap)(a:Addr)(es:Array (Int×z9)):Prop :=
 ∃ep t,h.get? a=some (aP es ep t)/\Tab t (es.map (·.1))/\es.size*5<t.mask*3/\t.led = !w.params.followText "set-order" /\ t.plain=true
theorem dk.at {h h':Heap}{a:Addr}{es:Array (Int×z9)}(x:dk w h a es)(e:∀o,h.get? a=some o->h'.get? a=some o):dk w h' a es :=
 let ⟨ep,t,ho,r⟩:=x;⟨ep,t,e _ ho,r⟩
theorem nY {m n:Nat}(hm:Msk m)(h1:n*5<m*3)(h2:(n+1)*5≥m*3)(h3:n<300):Msk (sizeAbove (grown (n+1))-1)/\n+1<=sizeAbove (grown (n+1))-1/\(n+1)*5<(sizeAbove (grown (n+1))-1)*3/\sizeAbove (grown (n+1))<=512:=by
 have c:n=4\/n=18\/n=76:=by
  rcases hm with rfl | rfl | rfl | rfl <;> lia
 unfold Msk
 rcases c with rfl | rfl | rfl <;> decide
theorem ly:512<=Ao:=by rw[Dq];lia
theorem n5 {a:Addr}{es es':Array (Int×z9)}{ep:Nat}{t t':SetTable}{Q:Unit->Ac->Prop}(ho:s.heap.get? a=some (aP es ep t))(hz:es'.size<=512)
  (h:∀h',Heap.SameBut a s.heap h'->h'.get? a=some (aP es' (ep+1) t')->Q () { s with heap:=h' }):AA (AM prog w) A (storeSet a es' t') Q E s:=by
 refine wpAny_storeSet_of (o:=aP es ep t) ho rfl ?_ (A4 hz ly)
 refine h _ (Gp s.heap a _) ?_
 have:=Bg (Obj.putSet es' t') ho (by rw[putSet_of es' t' (o:=aP es ep t) rfl];rfl)
 rw[putSet_of es' t' (o:=aP es ep t) rfl] at this
 exact this
theorem Tab.tooFull {t:SetTable}{hs:Array Int}(T:Tab t hs):t.tooFull=decide (hs.size*5≥t.mask*3):=by
 unfold SetTable.tooFull;rw[T.fill]
theorem rZ {t:SetTable}{es:Array (Int×z9)}(T:Tab t (es.map (·.1))){n:Nat}(hn:es.size=n+1)(h1:n*5<t.mask*3)(h2:(n+1)*5≥t.mask*3)(h3:n<300) :
  ∃t' order,t.relaid (es.map (·.1)) (grown (n+1))=some (t',order)/\order.toList.Perm (Bv es.size)/\Tab t' ((order.filterMap (es[·]?)).map (·.1))/\(order.filterMap (es[·]?)).toList.Perm es.toList/\t'.led=t.led/\t'.plain=t.plain/\(n+1)*5<t'.mask*3:=by
 obtain ⟨k1,k2,k3,k4⟩:=nY T.msk h1 h2 h3
 obtain ⟨t',order,e,pm,T',pe,l,p,m⟩:=wm k1 t.finger (t.movedTo (sizeAbove (grown (n+1))-1)) t.led t.plain es (by lia)
 exact ⟨t',order,e,pm,T',pe,l,p,by rw[m];exact k3⟩
theorem pE {ks:List Int}{b:Addr}{Q:Bool->Ac->Prop}(hk:TK prog w s.heap ks b)(h:Q true s):AA (AM prog w) A (hashByValue 8 (.ref b)) Q E s:=by
 have hT:=hk.typeIs
 obtain ⟨o,items,n,ho,_,hd,hi⟩:=hk
 unfold hashByValue
 refine zY (C9 hT F.slot_tuple_hash.lookup ?_)
 dsimp only
 refine zY (Dr ho hd ?_)
 refine zY ?_
 show AA _ _ (forIn items _ _) _ _ s
 rw[<- GH]
 have hall0:∀v∈items.toList,∃k t,v = .int k t:=by
  clear hd ho
  generalize items.toList=l at hi
  induction hi with
  | nil=>intro v hv;cases hv
  | cons h1 _ ih =>
   intro v hv
   rcases AJ.mp hv with rfl | hv
   ·obtain ⟨t,e⟩:=GW h1;exact ⟨_,t,e⟩
   ·exact ih v hv
 refine DZ _ (λrest r s'=>r.1=none/\s'=s/\∀v∈rest,∃k t,v=Cb k t) _ ?_ ?_ _ _ ⟨rfl,rfl,hall0⟩
 ·rintro v rest r s' ⟨hr,rfl,hall⟩
  obtain ⟨k,t,rfl⟩:=hall v AN
  rw[show hashByValue 7 (.int k t)=pure true from rfl]
  refine zY (Aa ?_)
  simp only[BW,Ay,if_false]
  exact Aa ⟨rfl,rfl,λu hu'=>hall u (AK _ hu')⟩
 ·rintro ⟨r1,r2⟩ s' ⟨hr,rfl,_⟩
  simp only at hr
  subst hr
  exact Aa h
theorem wq {a b:Addr}{es:Array (Int×z9)}{ks:List Int}{Q:Bool->Ac->Prop}(hu:A.units<cLine)(I:dk w s.heap a es)(els:∀e∈es,∃ks',ElT prog w s.heap e ks')(hk:TK prog w s.heap ks b)(hz:es.size<300)
  (hin:(∃e∈es,ElT prog w s.heap e ks)->Q false s)
  (hnew:(¬ ∃e∈es,ElT prog w s.heap e ks)->∀h' es',Heap.SameBut a s.heap h'->dk w h' a es'->es'.toList.Perm ((bR prog w ks,.ref b) :: es.toList)->Q true { s with heap:=h' }) :
  AA (AM prog w) A (setAddHashed a (.ref b) (bR prog w ks)) Q E s:=by
 obtain ⟨ep,t,ho,T,rm,hl,hp⟩:=I
 unfold setAddHashed setAddHashedIn
 refine Bw (zY (bD ho T ?_))
 dsimp only
 rw[show byScan (.ref b) es=false from rfl]
 simp only[Ay,if_false]
 obtain ⟨n,q,hn,W,he,hq,hd⟩:=T.ends (bR prog w ks)
 have hn':n<100000:=by
  have:t.mask<=511:=by rcases T.msk with e | e | e | e <;> lia
  unfold turns at hn
  lia
 unfold setSearch
 refine zY (pD hu ho T els hk he 100000 n none _ rfl W hn' hn rfl (λx =>?_) λx =>?_)
 ·obtain ⟨k,r,i,e,_,_,ee,el⟩:=x
  exact Aa (hin ⟨e,Array.mem_of_getElem? ee,el⟩)
 ·have nx:¬ ∃e∈es,ElT prog w s.heap e ks:=by
   rintro ⟨e,he',el⟩
   obtain ⟨i,hi,ei⟩:=Array.getElem_of_mem he'
   have ee:es[i]? = some e:=by rw[AG hi,ei]
   have hpl:i<t.place.size:=by rw[T.size,BG];exact hi
   obtain ⟨bb,rfl,hbb⟩:=el
   obtain ⟨k,r,w1,er⟩:=T.reach i _ _ (AG hpl) (pC es i _ ee)
   exact x ⟨k,r,i,_,w1,by rw[er];exact AG hpl,ee,bb,rfl,hbb⟩
  dsimp only
  refine zY (bD ho T ?_)
  dsimp only
  rw[T.yB]
  dsimp only
  rw[hp]
  simp only[if_true]
  have hz':(es.map (·.1)).size+1<=t.mask:=by
   rw[BG];have:=T.fit;rw[BG] at this
   rcases T.msk with e | e | e | e <;> rw[e] at rm ⊢ <;> lia
  have T':=T.put W he hq hz'
  rw[<- mD es (below t.place q.j) (bR prog w ks,Ar b) (·.1),hp] at T'
  have sz:(insertAt es (below t.place q.j) (bR prog w ks,Ar b)).size=es.size+1:=cC _ _ _
  refine zY (pE hk ?_)
  simp only[if_true]
  refine zY (n5 ho (by rw[sz];lia) λh1 sb1 ho1 =>?_)
  have pm1:=insertAt_perm es (below t.place q.j) (bR prog w ks,Ar b)
  rw[T'.tooFull,BG,sz]
  by_cases full:(es.size+1)*5≥t.mask*3
  ·rw[if_pos (by simpa using full)]
   unfold setRelay
   obtain ⟨t2,order,e2,pm2,T2,pe2,l2,p2,rm2⟩:=rZ T' sz (n:=es.size) (by simpa using rm) full hz
   obtain ⟨_,_,_,sa⟩:=nY T.msk rm full hz
   refine zY (zY (bD (s:={ s with heap:=h1 }) ho1 T' ?_))
   dsimp only
   rw[if_neg (Nat.not_lt.mpr (A4 sa ly))]
   rw[e2]
   have z2:(order.filterMap ((insertAt es (below t.place q.j) (bR prog w ks,Ar b))[·]?)).size=es.size+1:=by
    rw[<- Ai,pe2.length_eq,Ai,sz]
   refine zY ?_
   show AA _ _ (if ((order.filterMap ((insertAt es (below t.place q.j) (bR prog w ks,Ar b))[·]?)).size != (insertAt es (below t.place q.j) (bR prog w ks,Ar b)).size)=true then _ else _) _ _ _
   rw[if_neg (by rw[z2,sz];simp)]
   refine Aa ?_
   dsimp only
   refine n5 (s:={ s with heap:=h1 }) ho1 (by rw[z2];lia) λh2 sb2 ho2 =>?_
   refine Aa (hnew nx h2 _ (sb1.trans sb2) ⟨_,_,ho2,T2,by rw[z2];exact rm2,by rw[l2];exact hl,by rw[p2]⟩ (pe2.trans pm1))
  ·rw[if_neg (by simpa using full)]
   refine Aa (hnew nx h1 _ sb1 ⟨_,_,ho1,T',?_,hl,rfl⟩ pm1)
   rw[sz]
   exact DY full
end
open PySem PySem.SetTable PyProof.Rows PySem.Spec
def TS (h h':Heap):Prop:=∀b o,o.cls = .type "tuple" -> h.get? b=some o->h'.get? b=some o
structure Kd (prog:Au)(w:AV)(κ:Type) where
 El:Heap->z9 -> κ -> Prop
 hash:κ -> Int
 room:Bd->Prop
 keeps:∀{h h':Heap} {v:z9} {k:κ},El h v k->TS h h'->El h' v k
 inj:∀{h:Heap} {v:z9} {k k':κ},El h v k->El h v k'->k=k'
 add:∀{A:Bd} {E:z9->Ac->Prop} {s:Ac} {a:Addr} {es:Array (Int×z9)} {v:z9} {k:κ} {Q:Bool->Ac->Prop},room A->dk w s.heap a es->(∀e∈es,∃k',e.1=hash k'/\El s.heap e.2 k')->El s.heap v k->es.size<300 →
  ((∃e∈es,El s.heap e.2 k)->∀tk,s.toks<=tk->Q false { s with toks:=tk }) →
  ((¬ ∃e∈es,El s.heap e.2 k)->∀h' es' tk,s.toks<=tk->Heap.SameBut a s.heap h'->dk w h' a es'->es'.toList.Perm ((hash k,v) :: es.toList)->Q true { s with heap:=h',toks:=tk }) →
  AA (AM prog w) A (setAdd a v) Q E s
theorem TK.keep {prog:Au}{w:AV}{h h':Heap}{ks:List Int}{b:Addr}(x:TK prog w h ks b)(t:TS h h'):TK prog w h' ks b :=
 let ⟨o,items,n,ho,hc,r⟩:=x;⟨o,items,n,t b o hc ho,hc,r⟩
def iR (prog:Au)(w:AV):Kd prog w (List Int) where
 El:=λh v ks=>∃b,v = .ref b/\TK prog w h ks b
 hash:=bR prog w
 room:=λA=>A.units<cLine
 keeps:=λ⟨b,e,x⟩ t=>⟨b,e,x.keep t⟩
 inj:=λ⟨b,e,x⟩ ⟨b',e',x'⟩=>by
  rw[e] at e';injection e' with e';subst e';exact x.inj x'
 add:=by
  intro A E s a es v k Q hu I els hv hz hin hnew
  obtain ⟨b,rfl,hk⟩:=hv
  unfold setAdd
  refine Bw (zY (wpAny_pyHash_tuple hu hk ?_))
  have els':∀e∈es,∃ks',ElT prog w s.heap e ks':=λe he=>by
   obtain ⟨k',e1,b',e2,x⟩:=els e he
   exact ⟨k',b',HR e1 e2,x⟩
  have conv:∀e∈es,(ElT prog w s.heap e k↔∃b,e.2 = .ref b/\TK prog w s.heap k b):=λe he=>by
   constructor
   ·rintro ⟨b',rfl,x⟩;exact ⟨b',rfl,x⟩
   ·rintro ⟨b',e2,x⟩
    obtain ⟨k',e1,b2,e3,x2⟩:=els e he
    rw[e2] at e3;injection e3 with e3;subst e3
    obtain rfl:=x.inj x2
    exact ⟨b',HR e1 e2,x⟩
  refine wq (s:={ s with toks:=s.toks+(k.length+1) }) hu I els' hk hz (λx=>hin ?_ _ (CJ _ _)) λx h' es' sb I' pm=>hnew ?_ h' es' _ (CJ _ _) sb I' pm
  ·obtain ⟨e,he,x⟩:=x;exact ⟨e,he,(conv e he).mp x⟩
  ·rintro ⟨e,he,y⟩;exact x ⟨e,he,(conv e he).mpr y⟩
section
variable  {prog:Au}{w:AV}{κ:Type}(kd:Kd prog w κ)
structure Good (h:Heap)(es:Array (Int×z9))(l:List κ):Prop where
 el:∀e∈es,∃k,k∈l/\e.1=kd.hash k/\kd.El h e.2 k
 all:∀k∈l,∃e∈es,kd.El h e.2 k
 dis:es.toList.Pairwise (λe e'=>∀k,kd.El h e.2 k->¬ kd.El h e'.2 k)
 len:es.size<=l.length
variable  {kd}
theorem Good.keeps {h h':Heap}{es:Array (Int×z9)}{l:List κ}(G:Good kd h es l)(t:TS h h'):Good kd h' es l:=by
 refine ⟨λe he =>?_,λk hk =>?_,?_,G.len⟩
 ·obtain ⟨k,a,b,c⟩:=G.el e he;exact ⟨k,a,b,kd.keeps c t⟩
 ·obtain ⟨e,a,b⟩:=G.all k hk;exact ⟨e,a,kd.keeps b t⟩
 ·refine Eg (λ{e e'} he he' x k y z =>?_) G.dis
  obtain ⟨k1,_,_,c1⟩:=G.el e (BN.mp he)
  obtain ⟨k2,_,_,c2⟩:=G.el e' (BN.mp he')
  obtain rfl:=kd.inj y (kd.keeps c1 t)
  obtain rfl:=kd.inj z (kd.keeps c2 t)
  exact x _ c1 c2
theorem Good.nil (h:Heap):Good kd h #[] []:=⟨λe he=>(by simp at he),λk hk=>(by cases hk),(by simp),Ag _⟩
theorem Good.same {h:Heap}{es:Array (Int×z9)}{l:List κ}(G:Good kd h es l){k:κ}(x:∃e∈es,kd.El h e.2 k):Good kd h es (l++[k]):=by
 refine ⟨λe he =>?_,λk' hk =>?_,G.dis,by rw[Ae];have:=G.len;lia⟩
 ·obtain ⟨k,a,b⟩:=G.el e he;exact ⟨k,CK _ a,b⟩
 ·rcases As.mp hk with hk | hk
  ·exact G.all k' hk
  ·rw[Ah] at hk;subst hk;exact x
theorem Good.more {h:Heap}{es es':Array (Int×z9)}{l:List κ}(G:Good kd h es l){k:κ}{v:z9}(hv:kd.El h v k)(x:¬ ∃e∈es,kd.El h e.2 k)(pm:es'.toList.Perm ((kd.hash k,v) :: es.toList)):Good kd h es' (l++[k]):=by
 have mem:∀e,e∈es'↔e=(kd.hash k,v)\/e∈es:=λe=>by
  rw[<- BN,pm.mem_iff,AJ,BN]
 refine ⟨λe he =>?_,λk' hk =>?_,?_,?_⟩
 ·rcases (mem e).mp he with rfl | he
  ·exact ⟨k,AQ _ (Ah.mpr rfl),rfl,hv⟩
  ·obtain ⟨k,a,b⟩:=G.el e he;exact ⟨k,CK _ a,b⟩
 ·rcases As.mp hk with hk | hk
  ·obtain ⟨e,a,b⟩:=G.all k' hk;exact ⟨e,(mem e).mpr (.inr a),b⟩
  ·rw[Ah] at hk;subst hk;exact ⟨_,(mem _).mpr (.inl rfl),hv⟩
 ·rw[pm.pairwise_iff (λ{a b} z k y1 y2=>z k y2 y1)]
  refine List.Pairwise.cons (λe he k' y1 y2 =>?_) G.dis
  obtain rfl:=kd.inj y1 hv
  exact x ⟨e,BN.mp he,y2⟩
 ·have:=pm.length_eq
  rw[AR,Ai,Ai] at this
  rw[Ae,BH]
  have:=G.len
  lia
end
section
variable  {prog:Au}{w:AV}{A:Bd}{R:Result->Ac->Prop}{I:Addr}{fp:List Addr}{G:Array GenState->Array GenState->Prop}{n:Nat}{P:Nat->z9->Prop}{St:Nat->Ac->Prop}{κ:Type}{kd:Kd prog w κ}
theorem n6 (W:WalksS prog w A.in1 I fp [I] G n P St)(hrm:kd.room A.in1)(hI:∀i s,St i s->∃o,s.heap.get? I=some o/\o.cls ≠ .type "tuple")(S:Addr)(hSf:S∉fp)(hIf:I∈fp)(ks:List κ)(hn:n=ks.length)(hb:n<300) :
  ∀(k i:Nat) (s:Ac) (es:Array (Int×z9)),n-i=k->i<=n->St i s->(∀j v,P j v->∃q,ks[j]? = some q/\kd.El s.heap v q) →
   dk w s.heap S es->Good kd s.heap es (ks.take i) →
   (∀s' es',Moved [S,I] G s s'->dk w s'.heap S es'->Good kd s'.heap es' ks->R (.ok (.ret .none)) s') →
   Ew (AM prog w) A (.builtin "set.update.loop" ⟨[.ref S,.ref I],[]⟩) R s:=by
 have hSI:S≠I:=λe=>hSf (e ▸ hIf)
 have ts:∀i s s',St i s->Moved [I] G s s'->TS s.heap s'.heap:=λi s s' hst hm b o hc e=>by
  refine hm.heap b o (λhb =>?_) e
  rw[Ah] at hb
  obtain ⟨o',e',c'⟩:=hI i s hst
  rw[hb,e'] at e;cases e;exact c' hc
 intro k
 induction k with
 | zero =>
  intro i s es hk hi hst hv hS hG hR
  have hin:i=n:=by omega
  subst hin
  refine Bi Fx ?_
  rw[Ba DE _]
  show AA _ A.in1 (pyNext (.ref I) >>= _) _ _ s
  refine zY (W.done s _ _ hst λs' hm =>?_)
  show AA _ A.in1 (ret CZ) _ _ s'
  rw[AY (by omega)] at hG
  exact Aa (hR s' es (hm.mono λb hb=>by rw[Ah] at hb;simp[hb]) (hS.at λo e=>hm.heap S o (by rw[Ah];exact hSI) e) (hG.keeps (ts _ _ _ hst hm)))
 | succ k ih =>
  intro i s es hk hi hst hv hS hG hR
  have hlt:i<n:=by omega
  refine Bi Fx ?_
  rw[Ba DE _]
  show AA _ A.in1 (pyNext (.ref I) >>= _) _ _ s
  refine zY (W.item i s _ _ hlt hst λv s' hP hst' hm =>?_)
  have t0:=ts _ _ _ hst hm
  obtain ⟨q,eq,hq⟩:=hv i v hP
  have hS':dk w s'.heap S es:=hS.at λo e=>hm.heap S o (by rw[Ah];exact hSI) e
  have hG':=hG.keeps t0
  have tk:ks.take (i+1)=ks.take i++[q]:=by rw[HH,eq];rfl
  show AA _ A.in1 (EM [v] (setAdd S v) >>= _) _ _ s'
  have hm2:Moved [S,I] G s s':=hm.mono λb hb=>by rw[Ah] at hb;simp[hb]
  refine zY (Bw (kd.add hrm hS' (λe he =>?_) (kd.keeps hq t0) ?_ (λx tk' htk =>?_) λx h' es' tk' htk sb I' pm =>?_))
  ·obtain ⟨k',_,a,b⟩:=hG'.el e he;exact ⟨k',a,b⟩
  ·have:=hG'.len;rw[Bf] at this;omega
  ·refine Aa ⟨BB DE _,ih (i+1) _ es (by omega) hlt (W.frame _ s' _ _ hst' htk λb _ o e=>e) (λj v' p =>?_) hS' (by rw[tk];exact hG'.same x) λs'' es'' hm'' a b =>?_⟩
   ·obtain ⟨q',a,b⟩:=hv j v' p;exact ⟨q',a,kd.keeps b t0⟩
   ·exact hR s'' es'' (Ig W.gtrans (hm2.then_heap htk λb o _ e=>e) hm'') a b
  ·have t1:TS s'.heap h':=λb o hc e=>by
    rw[sb.2 b (λhb=>by
     obtain ⟨ep,t,ho,_⟩:=hS'
     rw[hb,ho] at e;cases e;simp[aP] at hc)]
    exact e
   refine Aa ⟨BB DE _,ih (i+1) _ es' (by omega) hlt (W.frame _ s' _ _ hst' htk λb hb o e =>?_) (λj v' p =>?_) I' (by rw[tk];exact (hG'.more (kd.keeps hq t0) x pm).keeps t1) λs'' es'' hm'' a b =>?_⟩
   ·rw[sb.2 b (λh:b=S=>hSf (h ▸ hb))];exact e
   ·obtain ⟨q',a,b⟩:=hv j v' p;exact ⟨q',a,kd.keeps (kd.keeps b t0) t1⟩
   ·refine hR s'' es'' (Ig W.gtrans (hm2.then_heap htk λb o hb e =>?_) hm'') a b
    rw[sb.2 b (λh:b=S=>hb (by rw[h];exact AN))];exact e
end
section
variable  {prog:Au}{w:AV}{A:Bd}{E:z9->Ac->Prop}{s:Ac}
theorem qB (a:z9){Q₁:z9->Ac->Prop}
    (h:Q₁ (.ref s.heap.objs.size) { s with heap:=s.heap.push (aP #[] 0 (.fresh 0 0 (!w.params.followText "set-order"))) }) :
    Ew (AM prog w) A (.call (.builtin "set.__new__") ⟨[.type "set",a],[]⟩) (wants Q₁ E) s:=by
  refine F6 ?_
  show AA _ A.in1 (do checkBuiltinCall "set.__new__" ⟨[.type "set",a],[]⟩;again (.builtin "set.__new__" ⟨[.type "set",a],[]⟩)) _ _ s
  refine zY (Cd (PySem.F.newCall_set_1 a) (Aa ⟨BB Hw _,Bi F.entry_set_new ?_⟩))
  rw[Ba Hw _]
  unfold Builtin.«set.__new__» Builtin.Frozenset.newClass
  have hsub:=sub_set_self
  obtain ⟨hp,g,d,tk,os⟩:=s
  dsimp only
  wp_walk
  refine FG (Aa ?_)
  dsimp only
  simp only[newObj]
  refine zY (wpAny_alloc (Aa ?_))
  exact Aa h
theorem r6 (led:Bool):Tab (.fresh 0 0 led) #[]:=by
 refine ⟨rfl,λi j a b e =>?_,rfl,λi j e =>?_,.inl rfl,A7 _,λi j h e =>?_⟩ <;> (simp[SetTable.fresh] at e)
theorem jO {h:Heap}{a:Addr}(ho:h.get? a=some (aP #[] 0 (.fresh 0 0 (!w.params.followText "set-order")))):dk w h a #[] :=
 ⟨0,_,ho,(by rw[Array.map_empty];exact r6 _),(by show 0*5<7*3;decide),rfl,rfl⟩
theorem sub_tuple_set:isSubtype (.type "tuple") (.type "set")=pure false:=by rw[CV];kernel_rfl
theorem sub_tuple_frozenset:isSubtype (.type "tuple") (.type "frozenset")=pure false:=by rw[CV];kernel_rfl
end
open PySem PySem.SetTable PyProof.Rows PySem.Spec
section
variable  {prog:Au}{w:AV}{A:Bd}{E:z9->Ac->Prop}{s:Ac}
set_option maxHeartbeats 3200000 in
theorem jP {κ:Type}{kd:Kd prog w κ}{l:Addr}{items:Array z9}{ks:List κ}{Q:z9->Ac->Prop}
  (hh:A.handled=none) (hrm:kd.room A.in1.in1.in1) (hl:s.heap.IsTuple l items) (hz:items.size=ks.length) (hi:∀(i:Nat) v,items[i]? = some v->∃q,ks[i]? = some q/\kd.El s.heap v q) (hb:items.size<300)
  (h:∀(h':Heap) (es:Array (Int×z9)) (tk:Nat),s.toks<=tk->dk w h' s.heap.objs.size es->Good kd h' es ks →
   (∀b o,s.heap.get? b=some o->h'.get? b=some o)->Q (.ref s.heap.objs.size) { s with heap:=h',toks:=tk }) :
  AA (AM prog w) A (call (.type "set") [.ref l]) Q E s:=by
 obtain ⟨c,tl,hmro⟩:=BV.mro
 have hmade:=BV.made
 have hsub:=BV.sub
 refine Ha (F6 ?_)
 show AA _ _ (callAny (.type "set") _) _ _ _
 refine Aa ⟨E8 _ (by decide +kernel),Bi G4 ?_⟩
 rw[GI (F7 "set" [.ref l] []) rfl]
 have h1:=BV.notType
 have h2:=BV.canCreate
 have hct:=FL (.ref l)
 repeat (any_goals (first | assumption | wp_step))
 have gd:(s.heap.push (aP #[] 0 (.fresh 0 0 (!w.params.followText "set-order")))).objs.size=s.heap.objs.size+1:=B7 _ _
 refine Ei (qB (w:=w) (.ref l) (E:=E) (Q₁:=λobj s₁=>obj = .ref s.heap.objs.size/\s₁={ s with heap:=s.heap.push (aP #[] 0 (.fresh 0 0 (!w.params.followText "set-order"))) }) ⟨rfl,rfl⟩) λr s₁ hr =>?_
 cases r with
 | error e=>exact hr
 | ok fl =>
  cases fl with
  | ret obj =>
   obtain ⟨rfl,rfl⟩:=hr
   generalize hled:(!w.params.followText "set-order")=led at gd ⊢
   have hS:(s.heap.push (aP #[] 0 (.fresh 0 0 led))).get? s.heap.objs.size=some (aP #[] 0 (.fresh 0 0 led)):=Am _ rfl
   have hT:Shared.TypeIs { s with heap:=s.heap.push (aP #[] 0 (.fresh 0 0 led)) } (.ref s.heap.objs.size) "set" :=⟨_,hS,rfl⟩
   have hli:=BV.init.lookup
   have hbi:=BV.init.bind (.ref s.heap.objs.size)
   repeat (any_goals (first | assumption | wp_step))
   refine Ei (EO (R:=wants (λr s₂=>r = .none/\∃h' es tk,s₂={ s with heap:=h',toks:=tk }/\s.toks<=tk ∧
     dk w h' s.heap.objs.size es/\Good kd h' es ks ∧
     (∀b o,s.heap.get? b=some o->h'.get? b=some o)) E) BV.init.plain Hq (check_set_init_1 hT ?_)) λr₂ s₂ hr₂ =>?_
   ·obtain ⟨ol,hol,hcl,nl,hdl⟩:=id hl
    obtain ⟨ocls,odict,odata,oslots⟩:=ol
    simp only at hcl hdl
    subst hcl;subst hdl
    have hol':(s.heap.push (aP #[] 0 (.fresh 0 0 led))).get? l=some { cls :=.type "tuple",dict:=odict,data :=.seq items nl,slots:=oslots }:=zZ _ hol
    have hsls:=sub_tuple_set
    have hslf:=sub_tuple_frozenset
    have hne:(CI "tuple" == CI "dict")=false:=by decide
    have hl1:(s.heap.push (aP #[] 0 (.fresh 0 0 led))).IsTuple l items:=⟨_,hol',rfl,nl,rfl⟩
    unfold Builtin.«set.__init__» noKeywords Builtin.Frozenset.updateFrom
    generalize hPI:pyIter=PI
    wp_walk
    subst hPI
    refine Dk hl1 ?_
    refine zY (EE ?_)
    have hlS:l<s.heap.objs.size:=An hol
    have hh3:A.in1.in1.in1.handled=none:=by simp[hh]
    have hneI:l≠(s.heap.push (aP #[] 0 (.fresh 0 0 led))).objs.size:=by
     rw[gd];exact AD (Bo hlS)
    have hSf:s.heap.objs.size∉[(s.heap.push (aP #[] 0 (.fresh 0 0 led))).objs.size,l]:=by
     rw[gd];simp only[AJ,Ah,EK,or_false,not_or]
     exact ⟨AD (BK _),Ec hlS⟩
    refine n6 (kd:=kd) ((Fy hh3 _ l hneI items).toS) hrm (λi s' st =>?hI) s.heap.objs.size hSf AN ks hz hb (items.size-0) 0 _ #[] (by lia) (A7 _)
     ⟨⟨_,Am _ rfl,rfl,rfl⟩,(hl1.push _)⟩ ?hv (by subst hled;exact jO (zZ _ hS)) (Good.nil _) ?hR
    case hI =>
     obtain ⟨o,ho,hc,_⟩:=st.1
     exact ⟨o,ho,by rw[hc];decide⟩
    case hv =>
     intro j v hv
     obtain ⟨q,e,x⟩:=hi j v hv
     exact ⟨q,e,kd.keeps x λb o _ e=>zZ _ (zZ _ e)⟩
    case hR =>
     intro s' es' hm hS' hG'
     obtain ⟨h',g',d',tk',os'⟩:=s'
     have eg:g'=s.gens:=hm.gens
     have ed:d'=s.drawn:=hm.drawn
     have eo:os'=s.os:=hm.os
     subst eg;subst ed;subst eo
     show AA _ _ _ _ _ _
     refine Aa ?_
     show AA _ _ (ret CZ) _ _ _
     refine Aa ⟨rfl,h',es',tk',rfl,hm.toks,hS',hG',λb o e =>?_⟩
     have hbb:=An e
     have hb1:b≠s.heap.objs.size:=AD hbb
     have hb2:b≠(s.heap.push (aP #[] 0 (.fresh 0 0 led))).objs.size:=by
      rw[gd];exact AD (Bo hbb)
     exact hm.heap b o (by simp only[AJ,Ah,EK,or_false,not_or];exact ⟨hb1,hb2⟩) (zZ _ (zZ _ e))
   ·cases r₂ with
    | error e=>exact hr₂
    | ok fl₂ =>
     cases fl₂ with
     | ret r =>
      obtain ⟨rfl,h',es,tk,rfl,htk,hS',hG',hk'⟩:=hr₂
      repeat (any_goals (first | assumption | wp_step))
      exact h _ _ _ htk hS' hG' hk'
     | _=>exact hr₂.elim
  | _=>exact hr.elim
end
open PySem PySem.SetTable PyProof.Rows PySem.Spec
section
variable  {prog:Au}{w:AV}{A:Bd}{E:z9->Ac->Prop}{s:Ac}
set_option maxHeartbeats 3200000 in
theorem call_set_list {κ:Type}{kd:Kd prog w κ}{l:Addr}{items:Array z9}{ks:List κ}{Q:z9->Ac->Prop}
  (hh:A.handled=none) (hrm:kd.room A.in1.in1.in1) (hl:s.heap.IsList l items) (hz:items.size=ks.length) (hi:∀(i:Nat) v,items[i]? = some v->∃q,ks[i]? = some q/\kd.El s.heap v q) (hb:items.size<300)
  (h:∀(h':Heap) (es:Array (Int×z9)) (tk:Nat),s.toks<=tk->dk w h' s.heap.objs.size es->Good kd h' es ks →
   (∀b o,s.heap.get? b=some o->h'.get? b=some o)->Q (.ref s.heap.objs.size) { s with heap:=h',toks:=tk }) :
  AA (AM prog w) A (call (.type "set") [.ref l]) Q E s:=by
 obtain ⟨c,tl,hmro⟩:=BV.mro
 have hmade:=BV.made
 have hsub:=BV.sub
 refine Ha (F6 ?_)
 show AA _ _ (callAny (.type "set") _) _ _ _
 refine Aa ⟨E8 _ (by decide +kernel),Bi G4 ?_⟩
 rw[GI (F7 "set" [.ref l] []) rfl]
 have h1:=BV.notType
 have h2:=BV.canCreate
 have hct:=FL (.ref l)
 repeat (any_goals (first | assumption | wp_step))
 have gd:(s.heap.push (aP #[] 0 (.fresh 0 0 (!w.params.followText "set-order")))).objs.size=s.heap.objs.size+1:=B7 _ _
 refine Ei (qB (w:=w) (.ref l) (E:=E) (Q₁:=λobj s₁=>obj = .ref s.heap.objs.size/\s₁={ s with heap:=s.heap.push (aP #[] 0 (.fresh 0 0 (!w.params.followText "set-order"))) }) ⟨rfl,rfl⟩) λr s₁ hr =>?_
 cases r with
 | error e=>exact hr
 | ok fl =>
  cases fl with
  | ret obj =>
   obtain ⟨rfl,rfl⟩:=hr
   generalize hled:(!w.params.followText "set-order")=led at gd ⊢
   have hS:(s.heap.push (aP #[] 0 (.fresh 0 0 led))).get? s.heap.objs.size=some (aP #[] 0 (.fresh 0 0 led)):=Am _ rfl
   have hT:Shared.TypeIs { s with heap:=s.heap.push (aP #[] 0 (.fresh 0 0 led)) } (.ref s.heap.objs.size) "set" :=⟨_,hS,rfl⟩
   have hli:=BV.init.lookup
   have hbi:=BV.init.bind (.ref s.heap.objs.size)
   repeat (any_goals (first | assumption | wp_step))
   refine Ei (EO (R:=wants (λr s₂=>r = .none/\∃h' es tk,s₂={ s with heap:=h',toks:=tk }/\s.toks<=tk ∧
     dk w h' s.heap.objs.size es/\Good kd h' es ks ∧
     (∀b o,s.heap.get? b=some o->h'.get? b=some o)) E) BV.init.plain Hq (check_set_init_1 hT ?_)) λr₂ s₂ hr₂ =>?_
   ·obtain ⟨ol,hol,hcl,nl,hdl⟩:=id hl
    obtain ⟨ocls,odict,odata,oslots⟩:=ol
    simp only at hcl hdl
    subst hcl;subst hdl
    have hol':(s.heap.push (aP #[] 0 (.fresh 0 0 led))).get? l=some { cls :=.type "list",dict:=odict,data :=.seq items nl,slots:=oslots }:=zZ _ hol
    have hsls:=PySem.F.sub_list_set
    have hslf:=PySem.F.sub_list_frozenset
    have hne:(CI "list" == CI "dict")=false:=by decide
    have hl1:(s.heap.push (aP #[] 0 (.fresh 0 0 led))).IsList l items:=⟨_,hol',rfl,nl,rfl⟩
    unfold Builtin.«set.__init__» noKeywords Builtin.Frozenset.updateFrom
    generalize hPI:pyIter=PI
    wp_walk
    subst hPI
    refine Dz hl1 ?_
    refine zY (EE ?_)
    have hlS:l<s.heap.objs.size:=An hol
    have hh3:A.in1.in1.in1.handled=none:=by simp[hh]
    have hneI:l≠(s.heap.push (aP #[] 0 (.fresh 0 0 led))).objs.size:=by
     rw[gd];exact AD (Bo hlS)
    have hSf:s.heap.objs.size∉[(s.heap.push (aP #[] 0 (.fresh 0 0 led))).objs.size,l]:=by
     rw[gd];simp only[AJ,Ah,EK,or_false,not_or]
     exact ⟨AD (BK _),Ec hlS⟩
    refine n6 (kd:=kd) ((G0 hh3 _ l hneI items).toS) hrm (λi s' st =>?hI) s.heap.objs.size hSf AN ks hz hb (items.size-0) 0 _ #[] (by lia) (A7 _)
     ⟨⟨_,Am _ rfl,rfl,rfl⟩,(hl1.push _)⟩ ?hv (by subst hled;exact jO (zZ _ hS)) (Good.nil _) ?hR
    case hI =>
     obtain ⟨o,ho,hc,_⟩:=st.1
     exact ⟨o,ho,by rw[hc];decide⟩
    case hv =>
     intro j v hv
     obtain ⟨q,e,x⟩:=hi j v hv
     exact ⟨q,e,kd.keeps x λb o _ e=>zZ _ (zZ _ e)⟩
    case hR =>
     intro s' es' hm hS' hG'
     obtain ⟨h',g',d',tk',os'⟩:=s'
     have eg:g'=s.gens:=hm.gens
     have ed:d'=s.drawn:=hm.drawn
     have eo:os'=s.os:=hm.os
     subst eg;subst ed;subst eo
     show AA _ _ _ _ _ _
     refine Aa ?_
     show AA _ _ (ret CZ) _ _ _
     refine Aa ⟨rfl,h',es',tk',rfl,hm.toks,hS',hG',λb o e =>?_⟩
     have hbb:=An e
     have hb1:b≠s.heap.objs.size:=AD hbb
     have hb2:b≠(s.heap.push (aP #[] 0 (.fresh 0 0 led))).objs.size:=by
      rw[gd];exact AD (Bo hbb)
     exact hm.heap b o (by simp only[AJ,Ah,EK,or_false,not_or];exact ⟨hb1,hb2⟩) (zZ _ (zZ _ e))
   ·cases r₂ with
    | error e=>exact hr₂
    | ok fl₂ =>
     cases fl₂ with
     | ret r =>
      obtain ⟨rfl,h',es,tk,rfl,htk,hS',hG',hk'⟩:=hr₂
      repeat (any_goals (first | assumption | wp_step))
      exact h _ _ _ htk hS' hG' hk'
     | _=>exact hr₂.elim
  | _=>exact hr.elim
end
open PySem PySem.SetTable PyProof.Rows
namespace F9
theorem dX:Slot "set_iterator" "__next__" "set_iterator.__next__" :=
 .of (owner := "set_iterator") (n := "__next__") (by rw[DA,Ci];kernel_rfl) (by decide +kernel) (by decide +kernel) (by decide +kernel)
  (by first | exact .inl (by decide +kernel) | exact .inr (by decide +kernel)) (by rw[CV];kernel_rfl)
theorem kz:entryFor table "set_iterator.__next__" = some Builtin.«set_iterator.__next__» := FH (by kernel_rfl)
theorem mI (a:z9):argsOk "set_iterator.__next__" ⟨[a],[]⟩:=by
 unfold argsOk;kernel_rfl
theorem jQ:entryFor table "set.__iter__" = some Builtin.«frozenset.__iter__» :=
 entryFor_alias (id' := "frozenset.__iter__") (by kernel_rfl) rfl (by decide +kernel) (by kernel_rfl)
end F9
theorem jR {α:Type}:∀(l:List α) (i:Nat) (x:α),l[i]? = some x->(x :: l.eraseIdx i).Perm l
 | [],i,x,h=>by simp at h
 | y :: l,0,x,h=>by simp at h;subst h;exact DV _
 | y :: l,i+1,x,h=>by
  rw[CQ] at h
  rw[Fw]
  exact (List.Perm.swap y x _).trans (List.Perm.cons y (jR l i x h))
theorem qC {α:Type}(next:Nat->Nat):∀(fuel k:Nat) (left:List α) (out:Array α),left.length=fuel->(pickOrder.go next fuel k left out).toList.Perm (out.toList++left)
 | 0,k,left,out,h=>by
  have:left=[]:=Er.mp h
  subst this
  unfold pickOrder.go
  rw[AU]
 | fuel+1,k,left,out,h=>by
  unfold pickOrder.go
  have hl:next k%left.length<left.length:=EB _ (by lia)
  have e:=Ab hl
  rw[e]
  dsimp only
  have ih:=qC next fuel (k+1) (left.eraseIdx (next k%left.length)) (out.push left[next k%left.length]) (by rw[List.length_eraseIdx,if_pos hl];lia)
  refine ih.trans ?_
  rw[Cv,A1]
  exact Cf _ (jR _ _ _ e)
theorem r9 {α:Type}(next:Nat->Nat)(xs:Array α):(pickOrder next xs).toList.Perm xs.toList:=by
 unfold pickOrder
 have:=qC next xs.size 0 xs.toList #[] (by simp)
 simpa using this
section
variable  {prog:Au}{w:AV}{A:Bd}{E:z9->Ac->Prop}{s:Ac}
def walkVals (w:AV)(a:Addr)(es:Array (Int×z9))(ep:Nat):List z9 :=
 if w.params.followText "set-order" = true then (pickOrder (w.params.setOrder a ep) es).toList.map (·.2) else es.toList.map (·.2)
theorem lA (w:AV)(a:Addr)(es:Array (Int×z9))(ep:Nat):(walkVals w a es ep).Perm (es.toList.map (·.2)):=by
 unfold walkVals
 split
 ·exact (r9 _ _).map _
 ·exact DV _
theorem ip {Q:Bool->Ac->Prop}(h:Q (w.params.followText "set-order") s):AA (AM prog w) A setsByText Q E s:=by
 unfold setsByText
 exact zY (FG (Aa h))
theorem pF {a:Addr}{es:Array (Int×z9)}{ep:Nat}{t:SetTable}{Q:Option (z9×Nat)->Ac->Prop}(ho:s.heap.get? a=some (aP es ep t))(T:Tab t (es.map (·.1)))(hl:t.led = !w.params.followText "set-order")(hp:t.plain=true){slot i:Nat}
  (hs:w.params.followText "set-order" = false->below t.place slot=i)
  (hy:∀x slot',(walkVals w a es ep)[i]? = some x->(w.params.followText "set-order" = false->below t.place slot'=i+1)->Q (some (x,slot')) s)
  (hn:(walkVals w a es ep)[i]? = none->Q none s):AA (AM prog w) A (setNext a slot i ep) Q E s:=by
 unfold setNext
 refine zY (bD ho T ?_)
 dsimp only
 refine zY (ip ?_)
 cases hb:w.params.followText "set-order" with
 | true =>
  rw[hb] at hs hy
  simp only[bne_self_eq_false,Ay,if_true,if_false]
  refine zY ?_
  unfold setWalk
  refine zY (bD ho T ?_)
  dsimp only
  refine zY (ip ?_)
  rw[hb]
  simp only[if_true]
  refine zY (FG (Aa ?_))
  refine Aa ?_
  have ew:(walkVals w a es ep)[i]? = ((pickOrder (w.params.setOrder a ep) es)[i]?).map (·.2):=by
   unfold walkVals
   rw[if_pos hb,Aw,Ap]
  show Q (((pickOrder (w.params.setOrder a ep) es)[i]?).map λe=>(e.2,slot)) s
  cases hx:(pickOrder (w.params.setOrder a ep) es)[i]? with
  | none=>rw[hx] at ew;exact hn ew
  | some e=>rw[hx] at ew;exact hy _ _ ew (λq=>by cases q)
 | false =>
  have hs':=hs hb
  simp only[Ay,if_false]
  have ew:(walkVals w a es ep)[i]? = (es[i]?).map (·.2):=by
   unfold walkVals
   rw[if_neg (by rw[hb];exact Ak),Aw,Ap]
  show AA _ _ (if (!t.plain && decide (es.size>1))=true then _ else _) _ _ _
  rw[hp]
  simp only[BW,CT,Ay,if_false]
  refine zY ?_
  show AA _ _ (if (!t.led && !es.isEmpty)=true then _ else _) _ _ _
  rw[hl,hb]
  simp only[Gi,BW,CT,Ay,if_false]
  refine Aa ?_
  rw[hs']
  by_cases hi:i<es.size
  ·have ee:es[i]? = some es[i]:=AG hi
   have hpl:i<t.place.size:=by rw[T.size,BG];exact hi
   have ep':t.place[i]? = some t.place[i]:=AG hpl
   rw[ee,ep']
   rw[ee] at ew
   exact Aa (hy _ _ ew λ_=>pk T.rise ep')
  ·have ee:es[i]? = none:=De (by lia)
   rw[ee]
   rw[ee] at ew
   exact Aa (hn ew)
def iq (h:Heap)(it a:Addr)(slot i n ep:Nat):Prop:=h.get? it=some { cls :=.type "set_iterator",data :=.fields #[.int slot 0,.int i 0,.ref a,.int n 0,.int ep 0] }
theorem iq.typeIs {it a:Addr}{slot i n ep:Nat}(x:iq s.heap it a slot i n ep):s.TypeIs (.ref it) "set_iterator" :=⟨_,x,rfl⟩
end
open PySem PySem.SetTable PyProof.Rows
section
variable  {prog:Au}{w:AV}{A:Bd}{E:z9->Ac->Prop}{s:Ac}
structure pG (w:AV)(h:Heap)(it a:Addr)(es:Array (Int×z9))(ep i:Nat):Prop where
 st:∃t slot,h.get? a=some (aP es ep t)/\Tab t (es.map (·.1))/\t.led=(!w.params.followText "set-order")/\t.plain=true/\(w.params.followText "set-order" = false->below t.place slot=i)/\iq h it a slot i es.size ep
theorem qD {it a:Addr}{es:Array (Int×z9)}{ep i:Nat}{Q:Option z9->Ac->Prop}(hh:A.handled=none)(hne:it≠a)(O:pG w s.heap it a es ep i)
  (hy:∀x h',(walkVals w a es ep)[i]? = some x->pG w h' it a es ep (i+1)->Heap.SameBut it s.heap h'->Q (some x) { s with heap:=h' })
  (hn:(walkVals w a es ep)[i]? = none->∀h',Heap.ExtBut it s.heap h'->Q none { s with heap:=h' }) :
  AA (AM prog w) A (pyNext (.ref it)) Q E s:=by
 obtain ⟨t,slot,ho,T,hl,hp,hs,hit⟩:=O.st
 have hf:t.fits es.size=true:=by have:=T.fits;rwa [BG] at this
 unfold pyNext
 refine zY (DU (CS (name:=Str.ofString "__next__") hit.typeIs F9.dX
  (Cc F9.dX hit.typeIs F9.kz ?_ (F9.mI _))))
 show AA _ _ (fieldsOf (.ref it) >>= _) _ _ s
 refine zY (wpAny_fieldsOf hit rfl ?_)
 show AA _ _ (setEntries a >>= _) _ _ s
 refine zY (Gv ho rfl hf ?_)
 rw[if_neg (by simp)]
 show AA _ _ (setNext a ((slot:Int).toNat) ((i:Int).toNat) ((ep:Int).toNat) >>= _) _ _ s
 rw[Dt,Dt,Dt]
 refine zY (pF ho T hl hp hs (λx slot' ex hs' =>?_) λex =>?_)
 ·dsimp only
  refine zY (Fc hit (by simp) λh1 e1 sb1 =>?_)
  refine zY (Fc e1 (by simp) λh2 e2 sb2 =>?_)
  refine Aa ⟨x,rfl,Aa (hy x h2 ex ⟨t,slot',?_,T,hl,hp,hs',?_⟩ (sb1.trans sb2))⟩
  ·rw[(sb1.trans sb2).2 a (B4 hne)];exact ho
  ·unfold iq
   rw[e2]
   simp[Ex]
 ·dsimp only
  refine zY (Fc hit (by simp) λh1 e1 sb1 =>?_)
  show AA _ _ (newExc (.type "StopIteration") [] >>= _) _ _ _
  refine zY ?_
  simp only[newExc,newTuple]
  refine zY (A2 ?_ (by size_fits))
  refine zY (m:=firstArgMember _ _) (Cd (a:=CZ) (by first | rfl | (simp only[firstArgMember];rfl)) ?_)
  refine A2 ?_ (by size_fits)
  simp only[raiseNew]
  refine zY (wpAny_handled ?_)
  first | rw[show A.in1.handled=none from hh] | rw[hh]
  refine zY (Aa (wpAny_throw ?_))
  refine zY (D6 (T := "StopIteration") (b:=true) ⟨_,Am _ rfl,rfl⟩ isSubtype_stop ?_)
  exact Aa (hn ex _ ((sb1.extBut.push _).push _))
theorem n8 {it a S:Addr}{es:Array (Int×z9)}{ep:Nat}{res:z9}{R:Result->Ac->Prop}(hh:A.in1.handled=none)(hne:it≠a)(hSI:S≠it)(hSa:S≠a)(hz:es.size<300) :
  ∀(k i:Nat) (h:Heap) (acc:Array z9) (c:Nat),es.size-i=k->i<=es.size->pG w h it a es ep i->h.get? S=some { cls :=.type "list",dict:=none,data :=.seq acc c,slots := #[] }->acc.toList=(walkVals w a es ep).take i →
  (∀h' acc' c',(∀b o,b≠S->b≠it->h.get? b=some o->h'.get? b=some o)->h'.get? S=some { cls :=.type "list",dict:=none,data :=.seq acc' c',slots := #[] }->acc'.toList=walkVals w a es ep->R (.ok (.ret res)) { s with heap:=h' }) →
  Ew (AM prog w) A (.builtin "list.extend.loop" ⟨[.ref S,.ref it,res],[]⟩) R { s with heap:=h }:=by
 have lw:(walkVals w a es ep).length=es.size:=by rw[(lA w a es ep).length_eq,z4,Ai]
 have zl:300<=Ao:=by rw[Dq];lia
 intro k
 induction k with
 | zero =>
  intro i h acc c hk hi O hS ha hR
  have hin:i=es.size:=by lia
  subst hin
  refine Bi Gq ?_
  rw[Ba Ea _]
  show AA _ A.in1 (pyNext (.ref it) >>= _) _ _ { s with heap:=h }
  refine zY (qD hh hne O (λx h' ex =>?_) λex h' xb =>?_)
  ·rw[Bx (by lia)] at ex;cases ex
  ·refine Aa (hR h' acc c (λb o _ hb e=>xb b o hb e) (xb S _ hSI hS) ?_)
   rw[ha,AY (by lia)]
 | succ k ih =>
  intro i h acc c hk hi O hS ha hR
  have hlt:i<es.size:=by lia
  refine Bi Gq ?_
  rw[Ba Ea _]
  show AA _ A.in1 (pyNext (.ref it) >>= _) _ _ { s with heap:=h }
  refine zY (qD hh hne O (λx h' ex O' sb =>?_) λex =>?_)
  ·have hS':h'.get? S=some { cls :=.type "list",dict:=none,data :=.seq acc c,slots := #[] }:=by rw[sb.2 S hSI];exact hS
   have hal:acc.size=i:=by rw[<- Ai,ha,Bf];lia
   show AA _ A.in1 (updateSeq S (·.push x) >>= _) _ _ _
   refine zY ?_
   refine B9 (s:={ s with heap:=h' }) hS' rfl (Aa ⟨BB Ea _,ih (i+1) _ (acc.push x) _ (by lia) hlt ?_ (Bg _ hS' rfl) ?_ λh'' acc' c' kk hS'' ha' =>?_⟩)
    (by rw[hal];lia) (by show (acc.push x).size<=Ao+1;rw[Dv,hal];lia)
   ·obtain ⟨t,slot,ho,T,hl,hp,hs,hit⟩:=O'.st
    exact ⟨t,slot,(AF _ _ hSa).trans ho,T,hl,hp,hs,(AF _ _ hSI).trans hit⟩
   ·rw[Cv,ha,HH,ex];rfl
   ·refine hR h'' acc' c' (λb o hb hb2 e=>kk b o hb hb2 ?_) hS'' ha'
    refine (AF _ _ (B4 hb)).trans ?_
    rw[sb.2 b hb2];exact e
  ·rw[Ab (by lia)] at ex;cases ex
theorem oa {a:Addr}{es:Array (Int×z9)}{R:List z9->Ac->Prop}(hh:A.handled=none)(I:dk w s.heap a es)(hz:es.size<300)
  (h:∀h1 vs,vs.Perm (es.toList.map (·.2))->(∀b o,s.heap.get? b=some o->h1.get? b=some o)->s.heap.objs.size<=h1.objs.size->R vs { s with heap:=h1 }) :
  AA (AM prog w) A (collect (.ref a)) R E s:=by
 obtain ⟨ep,t,ho,T,rm,hl,hp⟩:=I
 have hf:t.fits es.size=true:=by have:=T.fits;rwa [BG] at this
 have hlt:=An ho
 unfold collect
 refine zY (EE (Bi F.entry_proto_collect ?_))
 rw[Ba F.plain_proto_collect _]
 show AA _ A.in1 (newList [] >>= λl=>again (.builtin "list.__iadd__" ⟨[l,.ref a],[]⟩)) _ _ s
 refine zY (A2 ?_)
 refine Aa ⟨BB G5 _,Bi F.entry_list_iadd ?_⟩
 rw[Ba G5 _]
 show AA _ A.in1 (BF (.ref s.heap.objs.size) (.ref a) (.ref s.heap.objs.size)) _ _ _
 unfold BF
 have hSa:s.heap.objs.size≠a:=Ec hlt
 have z1:(s.heap.push { cls :=.type "list",data :=.seq ([]:List z9).toArray }).objs.size=s.heap.objs.size+1:=B7 _ _
 have ho1:(s.heap.push { cls :=.type "list",data :=.seq ([]:List z9).toArray }).get? a=some (aP es ep t):=zZ _ ho
 have hT1:Shared.TypeIs { s with heap:=s.heap.push { cls :=.type "list",data :=.seq ([]:List z9).toArray } } (.ref a) "set" :=⟨_,ho1,rfl⟩
 refine zY (Dm hT1 ?_)
 have h1:DB (.ref s.heap.objs.size) (.ref a)=false:=by simp[DB,hSa]
 have h2:(CI "set" == CI "list")=false:=by decide
 have h3:(CI "set" == CI "tuple")=false:=by decide
 simp only[h1,h2,h3,HV,Ay,if_false]
 refine zY (Hc hT1 Hx (Cc Hx hT1 F9.jQ ?_ (F.args_set_iter_1 _)))
 unfold Builtin.«frozenset.__iter__» Builtin.Frozenset.slot0 slotArgs
 simp only[List.isEmpty_nil,BW,Ay, ↓reduceIte,bind_assoc,Ck,bne_self_eq_false]
 unfold Builtin.Frozenset.addrOf Builtin.Frozenset.sizeOf
 refine zY (Aa ?_)
 try dsimp only
 refine zY (Aa ?_)
 refine zY (zY (Gv ho1 rfl hf (Aa ?_)))
 refine zY ?_
 unfold setDrawn
 refine zY (bD ho1 T ?_)
 dsimp only
 refine zY (ip ?_)
 show AA _ _ (pure (!w.params.followText "set-order" && (!t.plain && decide (es.size>1)))) _ _ _
 rw[hp]
 simp only[BW,CT,CU]
 refine Aa ?_
 simp only[Ay,if_false]
 refine zY (Aa ?_)
 refine zY (wpAny_setEpoch_of ho1 rfl hf ?_)
 refine zY (A2 (Aa ⟨_,rfl, "set_iterator",_,⟨_,Am _ rfl,rfl⟩,F9.dX.lookup,?_⟩))
 have zit:(s.heap.push { cls :=.type "list",data :=.seq ([]:List z9).toArray }).objs.size=s.heap.objs.size+1:=z1
 show AA _ A.in1 (EM [.ref (s.heap.push { cls :=.type "list",data :=.seq ([]:List z9).toArray }).objs.size] (Dc (.ref a)) >>= _) _ _ { s with heap:=(s.heap.push { cls :=.type "list",data :=.seq ([]:List z9).toArray }).push { cls :=.type "set_iterator",data :=.fields #[Ex 0,Ex 0,.ref a,Ex es.size,Ex ep] } }
 rw[zit]
 generalize hH:(s.heap.push { cls :=.type "list",data :=.seq ([]:List z9).toArray }).push { cls :=.type "set_iterator",data :=.fields #[Ex 0,Ex 0,.ref a,Ex es.size,Ex ep] }=H
 have kH:∀b o,(s.heap.push { cls :=.type "list",data :=.seq ([]:List z9).toArray }).get? b=some o->H.get? b=some o:=λb o e=>by rw[<- hH];exact zZ _ e
 have zH:H.objs.size=s.heap.objs.size+2:=by rw[<- hH,B7,z1]
 have hit:iq H (s.heap.objs.size+1) a 0 0 es.size ep:=by
  unfold iq
  rw[<- hH, <- z1]
  exact Am _ rfl
 have hT2:Shared.TypeIs { s with heap:=H } (.ref a) "set" :=⟨_,kH _ _ ho1,rfl⟩
 refine zY (Bw ?_)
 unfold Dc
 refine zY (C9 hT2 F.slot_set_len.lookup ?_)
 dsimp only
 rw[show splitId "set.__len__" = some ("set", "__len__") by kernel_rfl]
 dsimp only
 refine zY (D6 hT2 sub_set_self ?_)
 simp only[BW,Ay,if_false]
 show AA _ _ (typeOf (.ref a) >>= _) _ _ _
 refine zY (Dm hT2 ?_)
 refine Aa ?_
 show AA _ A.in1 (rule "list.extend.makes-room" >>= λ_=>Builtin.List.listTouch (.ref s.heap.objs.size) >>= λ_ =>
  again (.builtin "list.extend.loop" ⟨[.ref s.heap.objs.size,.ref (s.heap.objs.size+1),.ref s.heap.objs.size],[]⟩)) _ _ _
 refine zY (Dh ?_)
 have hS₁:H.get? s.heap.objs.size=some { cls :=.type "list",data :=.seq ([]:List z9).toArray }:=kH _ _ (Am _ rfl)
 refine zY ?_
 show AA _ A.in1 (updateSeq s.heap.objs.size (·.push .none) >>= λ_=>updateSeq s.heap.objs.size (·.pop)) _ _ _
 refine zY (B9 (s:={ s with heap:=H }) hS₁ rfl ?_)
 have hS₂:=Bg (Cr (·.push CZ)) hS₁ rfl
 refine B9 hS₂ rfl ?_
 have hS₃:=Bg (Cr (·.pop)) hS₂ rfl
 have oth:∀b o,b≠s.heap.objs.size->H.get? b=some o->((H.update s.heap.objs.size (Cr (·.push CZ))).update s.heap.objs.size (Cr (·.pop))).get? b=some o :=
  λb o hb e=>(AF _ _ (B4 hb)).trans ((AF _ _ (B4 hb)).trans e)
 refine Aa ⟨BB Ea _,n8 (it:=s.heap.objs.size+1) (a:=a) (es:=es) (ep:=ep) (s:=s) hh (Ec (Bo hlt)) (AD (BK _)) hSa hz es.size 0 _ _ _ rfl (A7 _)
  ⟨t,0,oth a _ (B4 hSa) (kH _ _ ho1),T,hl,hp,λ_=>pq T.rise,oth _ _ (Ec (BK _)) hit⟩ hS₃ rfl λh' acc' c' kk hS' ha =>?_⟩
 show AA _ A (load s.heap.objs.size >>= _) _ _ { s with heap:=h' }
 refine zY (G9 hS' ?_)
 have kf:∀b o,s.heap.get? b=some o->h'.get? b=some o:=λb o e=>by
  have:=An e
  exact kk b o (AD this) (AD (Bo this)) (oth b o (AD this) (kH b o (zZ _ e)))
 refine Aa ?_
 rw[ha]
 exact h h' _ (lA w a es ep) kf (DC (An hS'))
end
open PySem PySem.SetTable PyProof.Rows Srt
def Kd.sub {prog:Au}{w:AV}{κ:Type}(kd:Kd prog w κ)(M:z9->Prop):Kd prog w κ where
 El:=λh v k=>kd.El h v k/\M v
 hash:=kd.hash
 room:=kd.room
 keeps:=λx t=>⟨kd.keeps x.1 t,x.2⟩
 inj:=λx y=>kd.inj x.1 y.1
 add:=by
  intro A E s a es v k Q hr I els hv hz hin hnew
  refine kd.add hr I (λe he =>?_) hv.1 hz (λx tk htk=>hin ?_ tk htk) λx h' es' tk htk sb I' pm=>hnew ?_ h' es' tk htk sb I' pm
  ·obtain ⟨k',a1,a2,a3⟩:=els e he;exact ⟨k',a1,a2⟩
  ·obtain ⟨e,he,y⟩:=x
   obtain ⟨k',a1,a2,a3⟩:=els e he
   exact ⟨e,he,y,a3⟩
  ·rintro ⟨e,he,y,_⟩;exact x ⟨e,he,y⟩
section
variable  {prog:Au}{w:AV}{A:Bd}{E:z9->Ac->Prop}{s:Ac}{O:E1}{key:z9->O.α}
theorem pH {a:Addr}{es:Array (Int×z9)}{Q:z9->Ac->Prop}(hh:A.handled=none)(I:dk w s.heap a es)(hz:es.size<300)(C:∀vs:List z9,vs.Perm (es.toList.map (·.2))->i4 prog w s vs O key)
  (h:∀(h':Heap) (p:Addr) (out:List z9) (n:Nat),(∀b o,s.heap.get? b=some o->h'.get? b=some o)->s.heap.objs.size<=p->h'.get? p=some (seqObj "list" out.toArray n)->out.Perm (es.toList.map (·.2))->out.Pairwise (λx y=>O.kle (key x) (key y))->Q (.ref p) { s with heap:=h' }) :
  AA (AM prog w) A (call (.builtin "sorted") [.ref a]) Q E s:=by
 refine Fg kind_sorted plain_sorted entry_sorted (args_sorted1 _) ?_
 unfold Builtin.«sorted»
 refine zY (m:=checkCount "sorted" 1 1 _) (Aa ?_)
 refine zY (oa (by simpa using hh) I hz λh1 vs pv k1 z1 =>?_)
 have hz':vs.length<=Ao:=by
  rw[pv.length_eq,z4,Ai]
  have:300<=Ao:=by rw[Dq];lia
  lia
 refine zY (FD ?_ hz')
 have hoL:(h1.push (seqObj "list" vs.toArray 0)).get? h1.objs.size=some (seqObj "list" vs.toArray 0):=Am _ rfl
 have kL:∀b o,s.heap.get? b=some o->(h1.push (seqObj "list" vs.toArray 0)).get? b=some o:=λb o e=>zZ _ (k1 b o e)
 refine zY (Bw (Cc slot_list_sort ⟨_,hoL,rfl⟩ entry_list_sort (fX (key:=key) (O:=O) hoL hz' (λh2 h6 k6 =>?_) λout pm ps=>⟨_,rfl,?_⟩) (args_list_sort _)))
 ·exact (C vs pv).ok h2 _ h6 λb o e=>k6 b o (AD (Ax (An e) z1)) (kL b o e)
 ·obtain ⟨n,en⟩:=sortedHeap_at (out:=out.toArray) hoL
  refine Aa ⟨_,rfl,h _ _ out n (λb o e =>?_) z1 en (pm.trans pv) ps⟩
  have lt:=Ax (An e) z1
  rw[sortedHeap_old (AD lt) (by rw[HQ];exact Bo lt)]
  exact kL b o e
end
end STab
namespace L2
open PySem PySem.Spec PyProof.Rows
section
variable  {X:Cx}
def gm (w:AV)(a:Addr)(ys:List V):HO :=.ext λh=>∃es,STab.dk w h a es/\Vals ys (es.toList.map (·.2))
theorem wt {prog:Au}{w:AV}{H:Hp}{h:Heap}{a:Addr}{ys:List V}{es:Array (Int×z9)}(I:STab.dk w h a es)(r:Vals ys (es.toList.map (·.2))):a6 prog w (upd H a (gm w a ys)) h a (gm w a ys):=by
 refine ⟨⟨es,I,r⟩,?_,λh1 h2 ⟨es',I',r'⟩ k=>⟨es',I'.at k,r'⟩⟩
 obtain ⟨ep,t,ho,_⟩:=I
 exact ⟨_,ho⟩
theorem oe:∀{ns:List Int} {xs:List z9} {prog:Au} {w:AV},CA xs ns->ItemsAre (intKind prog w) ns xs
 | _,_,_,_,.nil =>.nil
 | _,_,_,_,.cons n t r =>.cons (intKind_is _ _ _ _) (oe r)
theorem Inv.tk {pins:List (Addr×Obj)}{σ:St}{H:Hp}{s:Ac}(I:Inv X pins σ H s){b:Addr}{ns:List Int}(h:SqT X.K H b (ns.map V.int)):STab.TK X.prog X.w s.heap ns b:=by
 obtain ⟨its,r,⟨o,e,c,n,d⟩,_⟩:=I.tuple h
 exact ⟨o,_,n,e,c,d,oe (by simpa using cP r)⟩
theorem pull {α β:Type}{f:α -> β}{ts:List α}:∀{l:List β},(∀v∈l,∃t∈ts,v=f t)->∃us:List α,l=us.map f/\∀t∈us,t∈ts
 | [],_=>⟨[],rfl,λt h=>by cases h⟩
 | v :: l,h=>by
  obtain ⟨t,ht,e⟩:=h v AN
  obtain ⟨us,e2,m⟩:=pull (l:=l) λv' hv=>h v' (AK _ hv)
  refine ⟨t :: us,by rw[AL, <- e, <- e2],λt' ht' =>?_⟩
  rcases AJ.mp ht' with rfl | h'
  ·exact ht
  ·exact m _ h'
theorem se (hh:X.A.handled=none)(hu:X.A.units+64<cLine):bM X (.type "set") (λxs H Q=>∃(p:Addr) (ts:List (Addr×List Int)),xs=[.ref p]/\(SqL X.K H p (ts.map λt =>.ref t.1)\/SqT X.K H p (ts.map λt =>.ref t.1))/\(∀t∈ts,SqT X.K H t.1 (t.2.map V.int))/\ts.length<300 ∧
  ∀(a:Addr) (us:List (Addr×List Int)),H a=none->(∀t∈us,t∈ts)->(us.map (·.2)).Nodup->(∀t∈ts,t.2∈us.map (·.2))->us.length<=ts.length->Q (.ref a) (upd H a (gm X.w a (us.map λt =>.ref t.1)))):=by
 intro pins s σ H xs vs Q I r h
 obtain ⟨p,ts,rfl,hs,ht,hl,q⟩:=h
 obtain ⟨u,rfl,ru⟩:=vals1 r
 cases (show u=Ar p from ru)
 have goal:∀(items:Array z9),items.toList=(ts.map λt=>Ar t.1)->∀(h':Heap) (es:Array (Int×z9)) (tk:Nat),s.toks<=tk->STab.dk X.w h' s.heap.objs.size es->STab.Good ((STab.iR X.prog X.w).sub (· ∈ items.toList)) h' es (ts.map (·.2)) →
   (∀b o,s.heap.get? b=some o->h'.get? b=some o)->EP X pins σ Q (.ref s.heap.objs.size) { s with heap:=h',toks:=tk }:=by
  intro items ei h' es tk _ S G k
  obtain ⟨us,eu,mu⟩:=pull (f:=λt:Addr×List Int=>Ar t.1) (ts:=ts) (l:=es.toList.map (·.2)) (λv hv=>by
   obtain ⟨e,he,rfl⟩:=Bc.mp hv
   obtain ⟨_,_,_,_,m⟩:=G.el e (BN.mp he)
   rw[ei] at m
   obtain ⟨t,ht',e'⟩:=Bc.mp m
   exact ⟨t,ht',e'.symm⟩)
  have tk':∀t∈us,STab.TK X.prog X.w h' t.2 t.1:=λt m=>(I.tk (ht t (mu t m))).keep λb o _ e=>k b o e
  have elu:∀t∈us,((STab.iR X.prog X.w).sub (· ∈ items.toList)).El h' (.ref t.1) t.2:=λt m=>⟨⟨t.1,rfl,tk' t m⟩,by
   rw[ei];exact Bc.mpr ⟨t,mu t m,rfl⟩⟩
  have nd:(us.map (·.2)).Nodup:=by
   have d:=G.dis
   have d2:(es.toList.map (·.2)).Pairwise (λv v'=>∀k,((STab.iR X.prog X.w).sub (· ∈ items.toList)).El h' v k->¬ ((STab.iR X.prog X.w).sub (· ∈ items.toList)).El h' v' k):=by
    rw[BX];exact d
   rw[eu,BX] at d2
   unfold List.Nodup
   rw[BX]
   refine d2.imp_of_mem λ{t t'} m m' x e=>x t.2 (elu t m) ?_
   have:=elu t' m'
   rw[<- e] at this
   exact this
  have cov:∀t∈ts,t.2∈us.map (·.2):=λt m=>by
   obtain ⟨e,he,x,_⟩:=G.all t.2 (Bc.mpr ⟨t,m,rfl⟩)
   have:e.2∈us.map λt=>Ar t.1:=by rw[<- eu];exact Bc.mpr ⟨e,BN.mpr he,rfl⟩
   obtain ⟨u,hu',e'⟩:=Bc.mp this
   obtain ⟨b,eb,x⟩:=x
   rw[<- e'] at eb
   injection eb with eb
   subst eb
   exact Bc.mpr ⟨u,hu',(tk' u hu').inj x⟩
  have hlen:us.length<=ts.length:=by
   have:=G.len
   rw[z4] at this
   have e2:=congrArg List.length eu
   rw[z4,z4,Ai] at e2
   lia
  refine ⟨.ref s.heap.objs.size,_,I.laid k (Ag _) (wt (ys:=us.map λt=>V.ref t.1) S (by rw[eu];exact fG)),rfl,q _ us (I.hok.fresh (Ag _)) mu nd cov hlen⟩
 have rm:((STab.iR X.prog X.w).sub (λv=>True)).room X.A.in1.in1.in1:=by show X.A.units+1+1+1<cLine;lia
 have itm:∀(its:List z9),its=(ts.map λt=>Ar t.1)->∀(i:Nat) (v:z9),its.toArray[i]? = some v->∃q,(ts.map (·.2))[i]? = some q/\((STab.iR X.prog X.w).sub (· ∈ its.toArray.toList)).El s.heap v q:=by
  intro its ei i v hv
  rw[BI,ei,Aw] at hv
  cases ht':ts[i]? with
  | none=>rw[ht'] at hv;cases hv
  | some t =>
   rw[ht'] at hv
   cases hv
   have m:=Aj ht'
   refine ⟨t.2,by rw[Aw,ht'];rfl,⟨t.1,rfl,I.tk (ht t m)⟩,?_⟩
   show Ar t.1∈its
   rw[ei]
   exact Bc.mpr ⟨t,m,rfl⟩
 rcases hs with hs | hs
 ·obtain ⟨its,rv,⟨o,n,e,c,dn,d⟩,z⟩:=I.list hs
  have ei:=dA rv
  have lz:its.length=ts.length:=by rw[ei,z4]
  refine STab.call_set_list (kd:=(STab.iR X.prog X.w).sub (· ∈ its.toArray.toList)) (items:=its.toArray) (ks:=ts.map (·.2)) hh rm ⟨o,e,c,n,d⟩ (by simp[lz]) (λi v hv =>?_) (by simpa [lz] using hl) (goal its.toArray (by simpa using ei))
  exact itm its ei i v hv
 ·obtain ⟨its,rv,⟨o,e,c,n,d⟩,z⟩:=I.tuple hs
  have ei:=dA rv
  have lz:its.length=ts.length:=by rw[ei,z4]
  refine STab.jP (kd:=(STab.iR X.prog X.w).sub (· ∈ its.toArray.toList)) (items:=its.toArray) (ks:=ts.map (·.2)) hh rm ⟨o,e,c,n,d⟩ (by simp[lz]) (λi v hv =>?_) (by simpa [lz] using hl) (goal its.toArray (by simpa using ei))
  exact itm its ei i v hv
theorem Inv.gm {pins:List (Addr×Obj)}{σ:St}{H:Hp}{s:Ac}(I:Inv X pins σ H s){a:Addr}{ys:List V}(h:H a=some (gm X.w a ys)):∃es,STab.dk X.w s.heap a es/\Vals ys (es.toList.map (·.2)):=by
 exact (I.hok a _ h).1
theorem kA (hh:X.A.handled=none):bM X (.builtin "sorted") (λxs H Q=>∃(a:Addr) (ts:List (Addr×List Int)),xs=[.ref a]/\H a=some (gm X.w a (ts.map λt =>.ref t.1))/\(∀t∈ts,SqT X.K H t.1 (t.2.map V.int)/\t.2≠[])/\ts.length<300 ∧
  ∀(l:Addr) (out:List (Addr×List Int)),H l=none->out.Perm ts->out.Pairwise (λa b=>HT.lexLt b.2 a.2=false)->Q (.ref l) (upd H l (.lst (out.map λt =>.ref t.1)))):=by
 intro pins s σ H xs us Q I r h
 obtain ⟨a,ts,rfl,hs,ht,hl,q⟩:=h
 obtain ⟨u,rfl,ru⟩:=vals1 r
 cases (show u=Ar a from ru)
 obtain ⟨es,S,rv⟩:=I.gm hs
 have ei:=dA rv
 have lz:es.size=ts.length:=by have:=rv.length;simp at this;lia
 have tup:∀t∈ts,Srt.cW s.heap (Ar t.1) t.2:=λt hm=>by
  obtain ⟨jts,jr,⟨jo,je,jc,jn,jd⟩,_⟩:=I.tuple (ht t hm).1
  exact ⟨t.1,jo,_,jn,rfl,je,jc,jd,by simpa using cP jr⟩
 have hv:∀v∈es.toList.map (·.2),∃ns,Srt.cW s.heap v ns/\ns≠[]:=λv hv=>by
  rw[ei] at hv
  obtain ⟨t,hm,rfl⟩:=Bc.mp hv
  exact ⟨t.2,tup t hm,(ht t hm).2⟩
 refine STab.pH (O:=Srt.lexOrd) (key:=Srt.cB s.heap) hh S (by lia) (λvs pv=>Srt.gN λv hm=>hv v (pv.mem_iff.mp hm)) λh' l out m k hl' el pm ps =>?_
 rw[ei] at pm
 obtain ⟨out',pm',rfl⟩:=jM pm
 have z:ts.length<=Ao:=by have:300<=Ao:=(by rw[Dq];lia);lia
 refine ⟨.ref l,_,I.newList k hl' el fG (by rw[z4,pm'.length_eq];exact z),rfl,q l _ (I.hok.fresh hl') pm' ?_⟩
 refine (BX.mp ps).imp_of_mem λ{a b} ha hb le =>?_
 have le':HT.lexLt (Srt.cB s.heap (Ar b.1)) (Srt.cB s.heap (Ar a.1))=false:=le
 rw[(tup a (pm'.mem_iff.mp ha)).ints,(tup b (pm'.mem_iff.mp hb)).ints] at le'
 exact le'
end
open PySem PySem.Spec PyProof.Rows
section
variable  {X:Cx}{w:AV}
theorem jS (hw:X.w=w)(hh:X.A.handled=none)(hu:X.A.units+64<cLine):bM X (.type "set") (λxs H Q=>∃(p:Addr) (ts:List (Addr×List Int)),xs=[.ref p]/\(SqL X.K H p (ts.map λt =>.ref t.1)\/SqT X.K H p (ts.map λt =>.ref t.1))/\(∀t∈ts,SqT X.K H t.1 (t.2.map V.int))/\ts.length<300 ∧
  ∀(a:Addr) (us:List (Addr×List Int)),H a=none->(∀t∈us,t∈ts)->(us.map (·.2)).Nodup->(∀t∈ts,t.2∈us.map (·.2))->us.length<=ts.length->Q (.ref a) (upd H a (gm w a (us.map λt =>.ref t.1)))):=by
 subst hw
 exact se hh hu
theorem eQ (hw:X.w=w)(hh:X.A.handled=none):bM X (.builtin "sorted") (λxs H Q=>∃(a:Addr) (ts:List (Addr×List Int)),xs=[.ref a]/\H a=some (gm w a (ts.map λt =>.ref t.1))/\(∀t∈ts,SqT X.K H t.1 (t.2.map V.int)/\t.2≠[])/\ts.length<300 ∧
  ∀(l:Addr) (out:List (Addr×List Int)),H l=none->out.Perm ts->out.Pairwise (λa b=>HT.lexLt b.2 a.2=false)->Q (.ref l) (upd H l (.lst (out.map λt =>.ref t.1)))):=by
 subst hw
 exact kA hh
end
open PySem PySem.Spec PyProof.Rows
section
variable  {X:Cx}
def tBMT (r:V->List V->Hp->VK->Prop)(to:TE)(t:TA):TE:=λσ H Q=>to σ H λx H1=>(∃p xs,x = .ref p/\H1 p=some (.tup xs))/\t σ H1 λxs H2=>r x xs H2 Q
theorem uE {o e:Expr}{es:List Expr}{to:TE}{t:TA}{name:Str}{apos cpos:Pos}{id:String}{r:V->List V->Hp->VK->Prop}(slot:Slot "tuple" name id)(hty:typeOf (.builtin id)=pure (.type "method_descriptor"))(hm:MtR X id r)(ho:PE X o to)(ha:PA X (e :: es) t)
  (hbase:attributeBase o name X.env (eval o X.env)=eval o X.env:=by rfl)
  (hfew:((Ez cpos (Bt (e :: es) X.env)).all (λx => !x.1) && (backToKw cpos (keywordEach [] X.env)).all (λx=>x.1.isSome)
   && decide ((e :: es).length+([]:List Keyword).length+(if ([]:List Keyword).isEmpty then 0 else 1)<30))=true:=by rfl)
  (hline:(apos.endLine == cpos.line)=true:=by rfl) (hs:Bt (e :: es) X.env=(false,eval e X.env) :: Bt es X.env:=by rfl) (hplain:(Ez cpos (Bt es X.env)).any (·.1)=false:=by rfl) :
  PE X (.Call (.Attribute o name apos) (e :: es) [] cpos) (tBMT r to t):=by
 intro pins s σ H Q I h
 refine FQ hbase hfew hline rfl (thn (ho pins s σ H _ I h) λv s1 ⟨x,H1,I1,r1,ty,q1⟩ =>?_)
 obtain ⟨p,xs,rfl,hp⟩:=ty
 cases (show v=Ar p from r1)
 obtain ⟨_,its,_,ob,e1,⟨c1,d1⟩,n,s1'⟩:=(show a6 X.prog X.w H1 s1.heap p (.tup xs) from I1.hok p _ hp)
 refine ⟨"tuple",id,PySem.F.plainAttrs_tuple,slot,hty,⟨ob,e1,c1⟩,λa e=>by cases e;exact ⟨ob,e1,d1⟩,?_⟩
 have hA:=ha cpos pins s1 σ H1 _ I1 q1
 rw[hs] at hA ⊢
 refine FJ (by show (false || (Ez cpos (Bt es X.env)).any (·.1))=false;rw[hplain] <;> rfl) (Gb ?_)
 exact thn hA λus s2 ⟨vs,H2,I2,r2,q2⟩=>hm pins s2 σ H2 (.ref p) vs _ us Q I2 rfl r2 q2
theorem lC {A:Bd}{s:Ac}{k:Int}{t:Tok}{its:List z9}{ns:List Int}(hi:CA its ns):∀y,y∈its.toArray->C0 A s y (.int k t) (isInt k y):=λy hy =>
 (eq_isInt k t hi y (by simpa using hy)).at _ _
theorem lD:∀{ns:List Int} {xs:List z9} {prog:Au} {w:AV},CA xs ns->ItemsAre (intKind prog w) ns xs
 | _,_,_,_,.nil =>.nil
 | _,_,_,_,.cons n t r =>.cons (intKind_is _ _ _ _) (lD r)
theorem Inv.tkA {pins:List (Addr×Obj)}{σ:St}{H:Hp}{s:Ac}(I:Inv X pins σ H s){b:Addr}{ns:List Int}(h:SqT X.K H b (ns.map V.int))(prog:Au)(w:AV):IsTupleKey (intKind prog w) s.heap ns b:=by
 obtain ⟨its,r,⟨o,e,c,n,d⟩,_⟩:=I.tuple h
 exact ⟨o,_,n,e,c,d,lD (by simpa using intsAre_of r)⟩
theorem Inv.eqT {pins:List (Addr×Obj)}{σ:St}{H:Hp}{s:Ac}(I:Inv X pins σ H s){A:Bd}(hu:A.units<cLine){a b:Addr}{ns ms:List Int}(h1:SqT X.K H a (ns.map V.int))(h2:SqT X.K H b (ms.map V.int)):C0 A s (.ref a) (.ref b) (decide (ns=ms)) :=
 λprog w E Q q=>GR hu (I.tkA h1 prog w) (I.tkA h2 prog w) q
theorem jT:∀{ps:List (Addr×List Int)} {us:List z9},Vals (ps.map λx=>V.ref x.1) us->us=ps.map λx=>Ar x.1
 | [],_,r=>by cases r;rfl
 | p :: ps,_,r=>by
  cases r with
  | cons h t=>rw[AL, <- jT t,show _=Ar p.1 from h]
noncomputable def mJ (ts:List (Addr×List Int))(m:List Int):z9->Bool:=λv=>decide (∃t∈ts,v = .ref t.1/\t.2=m)
theorem lE {pins:List (Addr×Obj)}{σ:St}{H:Hp}{s:Ac}(I:Inv X pins σ H s){ts:List (Addr×List Int)}(ht:∀t∈ts,SqT X.K H t.1 (t.2.map V.int)){m:List Int}{t:Addr×List Int}(hm:t∈ts):mJ ts m (.ref t.1)=decide (t.2=m):=by
 unfold mJ
 by_cases e:t.2=m
 ·rw[decide_eq_true e,decide_eq_true ⟨t,hm,rfl,e⟩]
 ·rw[decide_eq_false e,decide_eq_false]
  rintro ⟨t',m',e1,e2⟩
  injection e1 with e1
  have:=I.kK (ht t hm) (by rw[e1];exact ht t' m')
  have inj:Function.Injective V.int:=λa b h=>by injection h
  have:t.2=t'.2:=(List.map_inj_right (λx y h=>inj h)).mp this
  exact e (this.trans e2)
theorem jU {pins:List (Addr×Obj)}{σ:St}{H:Hp}{s:Ac}(I:Inv X pins σ H s){ts:List (Addr×List Int)}(ht:∀t∈ts,SqT X.K H t.1 (t.2.map V.int)){m:List Int}:∀us:List (Addr×List Int),(∀t∈us,t∈ts)->(us.map λt=>Ar t.1).countP (mJ ts m)=(us.map (·.2)).count m
 | [],_=>rfl
 | u :: us,h=>by
  rw[AL,AL,List.countP_cons,List.count_cons,jU I ht us (λt hm=>h t (AK _ hm)),lE I ht (h u AN)]
  by_cases e:u.2=m
  ·rw[decide_eq_true e,e];simp
  ·rw[decide_eq_false e];simp[e]
theorem pI (hu:X.A.units+8<cLine):MtR X "tuple.count" (λx vs H Q=>∃(p b:Addr) (ts:List (Addr×List Int)) (m:List Int),x = .ref p/\vs=[.ref b]/\H p=some (.tup (ts.map λt =>.ref t.1))/\(∀t∈ts,H t.1=some (.tup (t.2.map V.int)))/\H b=some (.tup (m.map V.int))/\Q (.int ((ts.map (·.2)).count m:Nat)) H):=by
 intro pins s σ H x vs v us Q I rx rv h
 obtain ⟨p,b,ts,m,rfl,rfl,hp,ht,hb,q⟩:=h
 cases rx
 obtain ⟨u,rfl,ru⟩:=vals1 rv
 cases (show u=Ar b from ru)
 have ht':∀t∈ts,SqT X.K H t.1 (t.2.map V.int):=λt hm=>SqT.of (ht t hm)
 obtain ⟨z,its,r,ob,e1,⟨c1,d1⟩,n,s1⟩:=(show a6 X.prog X.w H s.heap p (.tup _) from I.hok p _ hp)
 have ei:=jT r
 obtain ⟨cls,dd,data,sl⟩:=ob
 simp only at c1 s1
 subst c1 s1
 refine EV Fp ⟨_,e1,rfl⟩ PySem.F.entry_tuple_count (PySem.F.args_tuple_count_2 _ _) (SeqAt.tuple_countAt p its.toArray n dd sl (.ref b) (mJ ts m)) ⟨e1,λy hy =>?_,?_⟩
 ·have hy':y∈its:=by simpa using hy
  rw[ei] at hy'
  obtain ⟨t,hm,rfl⟩:=Bc.mp hy'
  rw[lE I ht' hm]
  exact I.eqT (by show X.A.units+1<cLine;lia) (ht' t hm) (SqT.of hb)
 ·rw[show its.toArray.toList=its from rfl,ei,jU I ht' ts (λt h=>h)]
  exact ⟨.int _,H,I.tok _,⟨_,rfl⟩,q⟩
theorem iS:∀{its:List z9} {ns:List Int},CA its ns->∃xs:List (Int×Tok),its=xs.map (λp=>Cb p.1 p.2)/\xs.map (·.1)=ns
 | _,_,.nil=>⟨[],rfl,rfl⟩
 | _,_,.cons n t r=>by
  obtain ⟨xs,e1,e2⟩:=iS r
  exact ⟨(n,t) :: xs,by rw[AL, <- e1],by rw[AL,e2]⟩
end
end L2
namespace HT
open PySem PySem.Spec PyProof.Rows
section
variable  {prog:Au}{w:AV}{A:Bd}{E:z9->Ac->Prop}{s:Ac}
theorem fS {t sl:Addr}{items:Array z9}{vl vu:z9}{lo hi:Option Int}{Q:z9->Ac->Prop}(ht:IsTup s.heap t items)(hs:s.heap.IsSliceOf sl vl vu .none)(pl:IsPart vl lo)(pu:IsPart vu hi)
  (hw:sIx items.size 0 lo=0/\sIx items.size items.size hi=items.size) (h:Q (.ref t) s):AA (AM prog w) A (getItem (.ref t) (.ref sl)) Q E s:=by
 obtain ⟨os,hos,hcs,hds⟩:=id hs
 have hTs:s.TypeIs (.ref sl) "slice" :=⟨os,hos,hcs⟩
 unfold getItem
 try with_reducible refine Bw ?_
 first | refine zY (Aa ?_) | skip
 refine zY (Hb ht.typeIs (by decide) ?_)
 refine zY (CS (name:=Str.ofString "__getitem__") ht.typeIs Bj
  (Cc Bj ht.typeIs entry_tuple_getitem ?_ (GP _ _)))
 show AA _ _ (Builtin.Tuple.tupleItemsOf (.ref t) >>= _) _ _ s
 refine zY (tupleItemsOf_ ht ?_)
 refine zY (Dm hTs ?_)
 rw[if_pos (by decide)]
 refine zY (dy hs pl pu ?_)
 show AA _ _ (if (((sIx items.size 0 lo:Nat):Int) == 0 && (1:Int) == 1 && (sIx items.size items.size hi-sIx items.size 0 lo) == items.size)=true then _ else _) _ _ s
 rw[hw.1,hw.2,if_pos (by simp)]
 unfold Builtin.Tuple.tupleIsExact
 refine zY (zY (Dm ht.typeIs (Aa ?_)))
 rw[if_pos (by decide)]
 exact zY (Dh (Aa ⟨_,rfl,Aa h⟩))
end
end HT
namespace L2
open PySem PySem.Spec PyProof.Rows
section
variable  {X:Cx}
theorem wu:SlR X (λx lo hi H Q=>∃a xs,x = .ref a/\SqT X.K H a xs/\((HT.sIx xs.length 0 lo=0/\HT.sIx xs.length xs.length hi=xs.length)->Q (.ref a) H) ∧
  (¬ (HT.sIx xs.length 0 lo=0/\HT.sIx xs.length xs.length hi=xs.length)->∀p,H p=none->Q (.ref p) (upd H p (.tup (dz xs lo hi))))):=by
 intro pins s σ H x v vl vu lo hi sl Q I rx hs pl pu h
 obtain ⟨a,xs,rfl,hx,q1,q2⟩:=h
 by_cases hw:HT.sIx xs.length 0 lo=0/\HT.sIx xs.length xs.length hi=xs.length
 ·cases rx
  obtain ⟨its,r,ht,hz⟩:=I.tuple hx
  have hlen:its.toArray.size=xs.length:=by rw[Ad];exact r.length.symm
  refine ⟨"tuple",_,Bj.lookup,ht.typeIs,?_⟩
  exact HT.fS ht hs pl pu (by rw[hlen];exact hw) ⟨.ref a,H,I,rfl,q1 hw⟩
 ·exact x9 pins s σ H _ v vl vu lo hi sl Q I rx hs pl pu ⟨a,xs,rfl,hx,hw,q2 hw⟩
end
section
variable  {prog:Au}{w:AV}{A:Bd}{E:z9->Ac->Prop}{s:Ac}
end
section
variable  {X:Cx}
end
open PySem PySem.Spec PyProof.Rows
section
variable  {κ:Type}[DecidableEq κ]
def bZ (kvs:List (κ×V))(k:κ):Option V:=(kvs.find? λkv=>decide (kv.1=k)).map (·.2)
def putK (kvs:List (κ×V))(k:κ)(v:V):List (κ×V) :=
 if (kvs.any λkv=>decide (kv.1=k))=true then kvs.map (λkv=>if kv.1=k then (kv.1,v) else kv) else kvs++[(k,v)]
theorem bJ {p:κ×V}{r:List (κ×V)}{k:κ}(e:p.1=k):bZ (p :: r) k=some p.2:=by simp[bZ,DP,e]
theorem bK {p:κ×V}{r:List (κ×V)}{k:κ}(e:¬ p.1=k):bZ (p :: r) k=bZ r k:=by simp[bZ,DP,e]
theorem eR (k:κ):∀kvs:List (κ×V),(kvs.any λkv=>decide (kv.1=k))=(bZ kvs k).isSome
 | []=>rfl
 | p :: r=>by
  rw[DQ]
  by_cases e:p.1=k
  ·simp only[bJ e,decide_eq_true e,Bool.true_or,Option.isSome_some]
  ·rw[bK e,decide_eq_false e,GJ];exact eR k r
theorem og (k j:κ)(y:V):∀kvs:List (κ×V),bZ (kvs.map λkv=>if kv.1=k then (kv.1,y) else kv) j=(bZ kvs j).map λx=>if j=k then y else x
 | []=>rfl
 | p :: r=>by
  have ih:=og k j y r
  rw[AL]
  by_cases h:p.1=k
  ·rw[if_pos h]
   by_cases e:p.1=j
   ·rw[bJ (p:=(p.1,y)) e,bJ e,Du,if_pos (e.symm.trans h)]
   ·rw[bK (p:=(p.1,y)) e,bK e,ih]
  ·rw[if_neg h]
   by_cases e:p.1=j
   ·rw[bJ (p:=p) e,bJ e,Du,if_neg (λz=>h (e.trans z))]
   ·rw[bK (p:=p) e,bK e,ih]
theorem lF (k j:κ)(y:V):∀kvs:List (κ×V),bZ kvs k=none->bZ (kvs++[(k,y)]) j=if j=k then some y else bZ kvs j
 | [],_=>by
  by_cases e:k=j
  ·rw[if_pos e.symm];exact bJ (p:=(k,y)) e
  ·rw[if_neg (λz=>e z.symm)];exact bK (p:=(k,y)) e
 | p :: r,hn=>by
  rw[Hm]
  have hk:¬ p.1=k:=λz=>by rw[bJ z] at hn;cases hn
  rw[bK hk] at hn
  have ih:=lF k j y r hn
  by_cases e:p.1=j
  ·rw[bJ e,bJ e,if_neg (λz=>hk (e.trans z))]
  ·rw[bK e,bK e,ih]
theorem uF (kvs:List (κ×V))(k j:κ)(y:V):bZ (putK kvs k y) j=if j=k then some y else bZ kvs j:=by
 unfold putK
 by_cases a:(kvs.any λkv=>decide (kv.1=k))=true
 ·rw[if_pos a,og]
  rw[eR] at a
  by_cases e:j=k
  ·obtain ⟨x,hx⟩:=Ed.mp a
   rw[if_pos e,e,hx,Du,if_pos rfl]
  ·rw[if_neg e]
   cases bZ kvs j with
   | none=>rfl
   | some x=>rw[Du,if_neg e]
 ·rw[if_neg a]
  refine lF k j y kvs ?_
  rw[eR] at a
  cases q:bZ kvs k with
  | none=>rfl
  | some x=>rw[q] at a;exact (a rfl).elim
theorem de (kvs:List (κ×V))(k:κ)(v:V):(putK kvs k v).length<=kvs.length+1:=by
 unfold putK
 split
 ·rw[z4];lia
 ·rw[Ae,AR,Ck];lia
theorem uG {kvs:List (κ×V)}{k:κ}(v:V)(h:bZ kvs k=none):putK kvs k v=kvs++[(k,v)]:=by
 unfold putK
 rw[eR,h]
 exact if_neg (by decide)
theorem jt.dC {o:Option V}{u:Option z9}(r:jt o u):o.isSome=u.isSome:=by
 cases o with
 | none=>cases u with
  | none=>rfl
  | some _=>exact (show False from r).elim
 | some _=>cases u with
  | none=>exact (show False from r).elim
  | some _=>rfl
theorem KV.val {kvs:List (κ×V)}{vs:List (κ×z9)}(r:KV kvs vs)(k:κ):jt (bZ kvs k) (valueAt vs k):=by
 unfold KV at r
 induction r with
 | nil=>exact True.intro
 | @cons p q ps qs h t ih =>
  obtain ⟨h1,h2⟩:=h
  by_cases e:p.1=k
  ·have e':q.1=k:=h1.symm.trans e
   have b:valueAt (q :: qs) k=some q.2:=by simp[valueAt,DP,e']
   rw[bJ e,b];exact h2
  ·have e':¬ q.1=k:=λz=>e (h1.trans z)
   have b:valueAt (q :: qs) k=valueAt qs k:=by simp[valueAt,DP,e']
   rw[bK e,b];exact ih
theorem KV.any {kvs:List (κ×V)}{vs:List (κ×z9)}(r:KV kvs vs)(k:κ):(kvs.any λkv=>decide (kv.1=k))=vs.any λkv=>decide (kv.1=k):=by
 unfold KV at r
 induction r with
 | nil=>rfl
 | cons h t ih=>rw[DQ,DQ,ih,h.1]
theorem KV.yD {kvs:List (κ×V)}{vs:List (κ×z9)}(r:KV kvs vs)(k:κ){y:V}{u:z9}(ry:RelV y u) :
  KV (kvs.map λkv=>if kv.1=k then (kv.1,y) else kv) (vs.map λkv=>if kv.1=k then (kv.1,u) else kv):=by
 unfold KV at r ⊢
 induction r with
 | nil=>exact .nil
 | @cons p q ps qs h t ih =>
  rw[AL,AL]
  refine .cons ?_ ih
  obtain ⟨h1,h2⟩:=h
  by_cases e:p.1=k
  ·rw[if_pos e,if_pos (h1.symm.trans e)];exact ⟨h1,ry⟩
  ·rw[if_neg e,if_neg (λz=>e (h1.trans z))];exact ⟨h1,h2⟩
theorem KV.put {kvs:List (κ×V)}{vs:List (κ×z9)}(r:KV kvs vs)(k:κ){y:V}{u:z9}(ry:RelV y u):KV (putK kvs k y) (stored vs k u):=by
 unfold putK stored
 rw[r.any k]
 by_cases e:(vs.any λkv=>decide (kv.1=k))=true
 ·rw[if_pos e,if_pos e];exact r.yD k ry
 ·rw[if_neg e,if_neg e];exact Ih r ⟨rfl,ry⟩
theorem KV.length {kvs:List (κ×V)}{vs:List (κ×z9)}(r:KV kvs vs):kvs.length=vs.length:=CO r
end
theorem lG {P:Au}{w:AV}{k:Key}{u:z9}(r:RelV (kV k) u):(bA P w).is k u=true:=by
 cases k with
 | inl i=>obtain ⟨t,e⟩:=(show ∃t,u=Cb i t from r);subst e;exact nC P w i t
 | inr x=>obtain ⟨t,e⟩:=(show ∃t,u=Value.str x t from r);subst e;exact nD P w x t
theorem lH {P:Au}{w:AV}:∀{ks:List Key} {us:List z9},Vals (ks.map kV) us->ItemsAre (bA P w) ks us
 | [],_,r=>by rw[FT] at r;cases r;exact .nil
 | k :: ks,_,r=>by
  rw[AL] at r
  cases r with
  | cons h t=>exact .cons (lG h) (lH t)
abbrev KT (H:Hp):List (List Key×V)->List (List Key×Addr×z9)->Prop:=Paired λp q=>p.1=q.1/\H q.2.1=some (.tup (p.1.map kV))/\RelV p.2 q.2.2
theorem KT.val {H:Hp}{kvs:List (List Key×V)}{xs:List (List Key×Addr×z9)}(r:KT H kvs xs)(k:List Key):jt (bZ kvs k) ((atKey xs k).map (·.2)):=by
 induction r with
 | nil=>exact True.intro
 | @cons p q ps qs h t ih =>
  obtain ⟨h1,_,h2⟩:=h
  by_cases e:p.1=k
  ·have e':q.1=k:=h1.symm.trans e
   have b:atKey (q :: qs) k=some q.2:=by simp[atKey,DP,e']
   rw[bJ e,b];exact h2
  ·have e':¬ q.1=k:=λz=>e (h1.trans z)
   have b:atKey (q :: qs) k=atKey qs k:=by simp[atKey,DP,e']
   rw[bK e,b];exact ih
theorem KT.yD {H:Hp}{kvs:List (List Key×V)}{xs:List (List Key×Addr×z9)}(r:KT H kvs xs)(k:List Key){y:V}{u:z9}(ry:RelV y u) :
  KT H (kvs.map λkv=>if kv.1=k then (kv.1,y) else kv) (xs.map (putAt k u)):=by
 induction r with
 | nil=>exact .nil
 | @cons p q ps qs h t ih =>
  rw[AL,AL]
  refine .cons ?_ ih
  obtain ⟨h1,h2,h3⟩:=h
  unfold putAt
  by_cases e:p.1=k
  ·rw[if_pos e,if_pos (h1.symm.trans e)];exact ⟨h1,h2,ry⟩
  ·rw[if_neg e,if_neg (λz=>e (h1.trans z))];exact ⟨h1,h2,h3⟩
theorem KT.put {H:Hp}{kvs:List (List Key×V)}{xs:List (List Key×Addr×z9)}(r:KT H kvs xs)(k:List Key){b:Addr}{y:V}{u:z9}(hb:H b=some (.tup (k.map kV)))(ry:RelV y u) :
  KT H (putK kvs k y) (storedH xs k b u):=by
 have e:(kvs.any λkv=>decide (kv.1=k))=(atKey xs k).isSome:=by
  rw[eR,(r.val k).dC,Fq]
 unfold putK storedH
 rw[e]
 by_cases q:(atKey xs k).isSome=true
 ·rw[if_pos q,if_pos q];exact r.yD k ry
 ·rw[if_neg q,if_neg q];exact Ih r ⟨rfl,hb,ry⟩
theorem KT.keeps {H H':Hp}{kvs:List (List Key×V)}{xs:List (List Key×Addr×z9)}(r:KT H kvs xs)(ht:∀b ys,H b=some (.tup ys)->H' b=some (.tup ys)):KT H' kvs xs :=
 Paired.xN r λ_ _ z=>⟨z.1,ht _ _ z.2.1,z.2.2⟩
section
variable  {P:Au}{w:AV}{H:Hp}{h:Heap}{a:Addr}
theorem xw {u:HO}(ok:HOk P w H h)(e:Rd H a u):a6 P w H h a u:=e.ok ok
theorem oh {kvs:List (Key×V)}(ok:HOk P w H h)(e:Rd H a (.dK kvs)):kvs.length<=Ao/\(a == sysModules)=false/\∃vs,KV kvs vs/\h.DictOf (bA P w) a vs :=
 show a6 P w H h a (.dK kvs) from xw ok e
theorem xx {kvs:List (Key×V)}(ok:HOk P w H h)(e:H a=some (.dK kvs)):kvs.length<=Ao/\(a == sysModules)=false/\∃vs,KV kvs vs/\h.DictOf (bA P w) a vs:=oh ok (.inl e)
theorem jV {ks:List Key}(ok:HOk P w H h)(e:H a=some (.tup (ks.map kV))):(tupleKind (bA P w)).is h ks a:=by
 obtain ⟨_,its,r,o,h1,h2,n,h3⟩:=(show a6 P w H h a (.tup (ks.map kV)) from ok a _ e)
 exact ⟨o,its.toArray,n,h1,h2.1,h3,by simpa using lH r⟩
theorem oj {kvs:List (List Key×V)}(ok:HOk P w H h)(e:Rd H a (.dT kvs)):kvs.length<=Ao/\(a == sysModules)=false ∧
  ∃xs,KT H kvs xs/\h.DictOfH (tupleKind (bA P w)) a xs:=by
 obtain ⟨z,y,xs,r,o,es,ep,h1,h2,h3,h4,h5⟩:=(show a6 P w H h a (.dT kvs) from xw ok e)
 refine ⟨z,y,xs,r,o,es,ep,h1,h2,h3,h4,λx hx =>?_,h5⟩
 have all:∀{l:List (List Key×V)} {m:List (List Key×Addr×z9)},KT H l m->∀x∈m,(tupleKind (bA P w)).is h x.1 x.2.1:=by
  intro l m q
  induction q with
  | nil=>intro x hx;exact nomatch hx
  | @cons p q ps qs hq t ih =>
   intro x hx
   rcases AJ.mp hx with e | hx
   ·subst e
    exact jV ok (by rw[<- hq.1];exact hq.2.1)
   ·exact ih x hx
 exact all r x hx
theorem zA {kvs:List (List Key×V)}(ok:HOk P w H h)(e:H a=some (.dT kvs)):kvs.length<=Ao/\(a == sysModules)=false ∧
  ∃xs,KT H kvs xs/\h.DictOfH (tupleKind (bA P w)) a xs:=oj ok (.inl e)
end
def gn (H:Hp)(a:Addr)(y:V)(r:Option V):Prop :=
 (∃kvs k,Rd H a (.dK kvs)/\y=kV k/\r=bZ kvs k)\/∃kvs k b,Rd H a (.dT kvs)/\y = .ref b/\H b=some (.tup (k.map kV))/\r=bZ kvs k
def om (H:Hp)(a:Addr)(y v:V)(H':Hp):Prop :=
 (∃kvs k,H a=some (.dK kvs)/\y=kV k/\kvs.length<Ao/\H'=upd H a (.dK (putK kvs k v))) ∨
 ∃kvs k b,H a=some (.dT kvs)/\y = .ref b/\H b=some (.tup (k.map kV))/\kvs.length<Ao/\H'=upd H a (.dT (putK kvs k v))
theorem gn.k {H:Hp}{a:Addr}{kvs:List (Key×V)}{k:Key}(e:H a=some (.dK kvs)):gn H a (kV k) (bZ kvs k) :=.inl ⟨kvs,k,.inl e,rfl,rfl⟩
theorem om.k {H:Hp}{a:Addr}{kvs:List (Key×V)}{k:Key}{v:V}(e:H a=some (.dK kvs))(hl:kvs.length<Ao):om H a (kV k) v (upd H a (.dK (putK kvs k v))) :=.inl ⟨kvs,k,e,rfl,hl,rfl⟩
section
variable  {X:Cx}{pins:List (Addr×Obj)}{σ:St}{H:Hp}{s:Ac}{a:Addr}{y v:V}{u r:z9}{o:Option V}{A:Bd}{E:z9->Ac->Prop}
theorem Inv.big (I:Inv X pins σ H s):sysModules<s.heap.objs.size:=by
 have h:A9<s.heap.objs.size:=(I.mod.glob.keeps I.bk).lt
 exact Nat.lt_trans (by decide) h
theorem sf {Q:z9->Ac->Prop}(hu:A.units+1<cLine)(I:Inv X pins σ H s)(g:gn H a y (some v))(ry:RelV y u)(h:∀w' s',Inv X pins σ H s'->RelV v w'->Q w' s') :
  AA (AM X.prog X.w) A (getItem (.ref a) u) Q E s:=by
 rcases g with ⟨kvs,k,e,ey,l⟩ | ⟨kvs,k,b,e,ey,eb,l⟩
 ·subst ey
  obtain ⟨z,hd,vs,rel,dd⟩:=oh I.hok e
  obtain ⟨w',hw,rw'⟩:=jt.some_of (v:=v) (o:=valueAt vs k) (by rw[l];exact rel.val k)
  exact wpAny_getItem_of (lG ry) dd.mapOf hw (h w' _ (I.tok _) rw')
 ·subst ey
  cases (show u=Ar b from ry)
  obtain ⟨z,hd,xs,rel,dd⟩:=oj I.hok e
  obtain ⟨w',hw,rw'⟩:=jt.some_of (v:=v) (o:=(atKey xs k).map (·.2)) (by rw[l];exact rel.val k)
  obtain ⟨p,hp,hp2⟩:=FN.mp hw
  refine wpAny_getItem_heap (Eu hu) (jV I.hok eb) dd hp ?_
  rw[hp2]
  exact h w' _ (I.tok _) rw'
theorem d_in {Q:z9->Ac->Prop}(hu:A.units+1<cLine)(I:Inv X pins σ H s)(g:gn H a y o)(ry:RelV y u)(h:∀s',Inv X pins σ H s'->Q (.bool o.isSome) s') :
  AA (AM X.prog X.w) A (BQ .In u (.ref a)) Q E s:=by
 rcases g with ⟨kvs,k,e,ey,l⟩ | ⟨kvs,k,b,e,ey,eb,l⟩
 ·subst ey
  obtain ⟨z,hd,vs,rel,dd⟩:=oh I.hok e
  refine wpAny_in_of (lG ry) hd dd.mapOf ?_
  rw[<- (rel.val k).dC, <- l]
  exact h _ (I.tok _)
 ·subst ey
  cases (show u=Ar b from ry)
  obtain ⟨z,hd,xs,rel,dd⟩:=oj I.hok e
  refine wpAny_in_heap (Eu hu) (jV I.hok eb) hd dd ?_
  have q:=(rel.val k).dC
  rw[Fq] at q
  rw[<- q, <- l]
  exact h _ (I.tok _)
theorem wx {Q:z9->Ac->Prop}(hu:A.units+1<cLine)(I:Inv X pins σ H s)(g:gn H a y o)(ry:RelV y u)(h:∀s',Inv X pins σ H s'->Q (.bool (!o.isSome)) s') :
  AA (AM X.prog X.w) A (BQ .NotIn u (.ref a)) Q E s:=by
 rcases g with ⟨kvs,k,e,ey,l⟩ | ⟨kvs,k,b,e,ey,eb,l⟩
 ·subst ey
  obtain ⟨z,hd,vs,rel,dd⟩:=oh I.hok e
  refine wpAny_notIn_of (lG ry) hd dd.mapOf ?_
  rw[<- (rel.val k).dC, <- l]
  exact h _ (I.tok _)
 ·subst ey
  cases (show u=Ar b from ry)
  obtain ⟨z,hd,xs,rel,dd⟩:=oj I.hok e
  refine wpAny_notIn_heap (Eu hu) (jV I.hok eb) hd dd ?_
  have q:=(rel.val k).dC
  rw[Fq] at q
  rw[<- q, <- l]
  exact h _ (I.tok _)
theorem mK {h':Heap}{t':Nat}{ob:HO}(I:Inv X pins σ H s)(mu:Mut (H a))(hs:Heap.SameBut a s.heap h')(he:∃q,h'.get? a=some q)(new:a6 X.prog X.w (upd H a ob) h' a ob) :
  Inv X pins σ (upd H a ob) { s with heap:=h',toks:=t' } :=
 I.write (x:=a) (e:=a) mu (.inl rfl) (λb q hb z=>(hs.2 b hb).trans z) he new
theorem uH {P:Au}{w:AV}{H':Hp}{h':Heap}{kvs:List (Key×V)}{vs:List (Key×z9)}(z:kvs.length<=Ao)(hd:(a == sysModules)=false)(rel:KV kvs vs)(dd:h'.DictOf (bA P w) a vs) :
  a6 P w H' h' a (.dK kvs):=⟨z,hd,vs,rel,dd⟩
theorem sg {H':Hp}{Q:Unit->Ac->Prop}(hu:A.units+1<cLine)(I:Inv X pins σ H s)(g:om H a y v H')(ry:RelV y u)(rv:RelV v r)(h:∀s',Inv X pins σ H' s'->Q () s') :
  AA (AM X.prog X.w) A (setItem (.ref a) u r) Q E s:=by
 rcases g with ⟨kvs,k,e,ey,l,eH⟩ | ⟨kvs,k,b,e,ey,eb,l,eH⟩
 ·subst ey eH
  obtain ⟨z,hd,vs,rel,dd⟩:=xx I.hok e
  have hz:vs.length<=Ao:=by rw[<- rel.length];exact z
  have hl:(putK kvs k v).length<=Ao:=by have:=de kvs k v;lia
  refine wpAny_setItem_pairs (hsz:=hz) (lG ry) dd λh' dd' hs=>h _ ?_
  have he:∃q,h'.get? a=some q:=let ⟨q,_,_,hq,_⟩:=dd';⟨q,hq⟩
  exact mK I (by rw[e];exact True.intro) hs he (uH hl hd (rel.put k rv) dd')
 ·subst ey eH
  cases (show u=Ar b from ry)
  obtain ⟨z,hd,xs,rel,dd⟩:=zA I.hok e
  have hz:xs.length<=Ao:=by rw[<- CO rel];exact z
  have hl:(putK kvs k v).length<=Ao:=by have:=de kvs k v;lia
  refine wpAny_setItem_heap (hsz:=hz) (Eu hu) (jV I.hok eb) dd λh' dd' hs=>h _ ?_
  obtain ⟨q,es,ep,hq,h2,h3,h4,_,h5⟩:=dd'
  refine mK I (by rw[e];exact True.intro) hs ⟨q,hq⟩ ⟨hl,hd,_,(rel.put k eb rv).keeps λc ys ec =>?_,q,es,ep,hq,h2,h3,h4,h5⟩
  rw[aD (iK ec e (λz=>nomatch z))]
  exact ec
end
section
variable  {X:Cx}{pins:List (Addr×Obj)}{σ:St}{H:Hp}{s:Ac}{a:Addr}{kvs:List (Key×V)}{k:Key}{u:z9}{A:Bd}{E:z9->Ac->Prop}
end
def zC (i:Expr):Prop:=∀ov iv,subscripted i false ov iv=operate [ov,iv] (getItem ov iv)
theorem wz {prog:Au}{w:AV}{A:Bd}{E:z9->Ac->Prop}{s:Ac}{env:Env}{value slice:Expr}{pos:Pos}{T id:String}{Q:z9->Ac->Prop}
  (hl:typeLookup (.type T) "__getitem__" = pure (some (.builtin id))) (hs:zC slice)
  (h:AA (AM prog w) A (eval value env) (λo s₁=>AA (AM prog w) A (eval slice env) (λi s₂=>s₂.TypeIs o T/\AA (AM prog w) A (getItem o i) Q E s₂) E s₁) E s) :
  AA (AM prog w) A (eval (.Subscript value slice pos) env) Q E s:=by
 refine Subscript_ (Cz h (λo s₁ h₁=>Cz h₁ (λi s₂ h₂ =>?_) λ_ _ x=>x) λ_ _ x=>x)
 obtain ⟨hT,h₂⟩:=h₂
 unfold subscriptTail
 refine zY ?_
 rw[getitemInPython_of_ne hT.not_modules]
 refine zY (C9 hT hl ?_)
 have fin:AA (AM prog w) A (subscripted slice false o i) (λr s₃=>AA (AM prog w) A (letTemporaryGo value o r >>= λ_=>pure r) Q E s₃) E s₂:=by
  rw[hs o i]
  exact wpAny_operating (Cz h₂ (λr s₃ h₃=>zY (wpAny_letTemporaryGo (Aa h₃))) λ_ _ x=>x)
 first
  | exact Aa (zY fin)
  | exact zY (Aa (zY fin))
  | exact zY fin
theorem oo {X:Cx}{pins:List (Addr×Obj)}{σ:St}{H:Hp}{s:Ac}{a:Addr}{y:V}{o:Option V}(I:Inv X pins σ H s)(g:gn H a y o):s.TypeIs (.ref a) "dict" := by
 rcases g with ⟨kvs,k,e,_,_⟩ | ⟨kvs,k,b,e,_,_,_⟩
 ·obtain ⟨_,_,vs,_,dd⟩:=oh I.hok e
  exact dd.typeIs
 ·obtain ⟨_,_,xs,_,dd⟩:=oj I.hok e
  exact dd.typeIs
def zD (td ty:TE):TE:=λσ H Q=>td σ H λx H1=>ty σ H1 λy H2=>∃a v,x = .ref a/\gn H2 a y (some v)/\Q v H2
def tDIn (ty td:TE):TE:=λσ H Q=>ty σ H λy H1=>td σ H1 λx H2=>∃a o,x = .ref a/\gn H2 a y o/\Q (.bl o.isSome) H2
def wA (ty td:TE):TE:=λσ H Q=>ty σ H λy H1=>td σ H1 λx H2=>∃a o,x = .ref a/\gn H2 a y o/\Q (.bl (!o.isSome)) H2
def zE (td ty tv:TE):TS:=λD σ H=>tv σ H λv H1=>td σ H1 λx H2=>ty σ H2 λy H3=>∃a H4,x = .ref a/\om H3 a y v H4/\D.nx σ H4
section
variable  {X:Cx}{o i e value:Expr}{pos pos' tpos:Pos}{td ty tv:TE}
theorem gQ (hu:X.A.units+1<cLine)(ho:PE X o td)(hi:PE X i ty)(hs:zC i):PE X (.Subscript o i pos) (zD td ty):=by
 intro pins s σ H Q I h
 refine wz PySem.F.slot_dict_getitem.lookup hs (thn (ho pins s σ H _ I h) λu s1 ⟨x,H1,I1,rx,q1⟩=>thn (hi pins s1 σ H1 _ I1 q1) λiv s2 ⟨y,H2,I2,ry,a,v,ex,g,q2⟩ =>?_)
 subst ex
 obtain rfl:u=Ar a:=rx
 exact ⟨oo I2 g,sf hu I2 g ry λw' s3 I3 rw'=>⟨v,H2,I3,rw',q2⟩⟩
theorem ir (hu:X.A.units+1<cLine)(hi:PE X i ty)(ho:PE X o td):PC X .In i o (tDIn ty td):=by
 intro pins s σ H Q I h
 refine thn (hi pins s σ H _ I h) λiv s1 ⟨y,H1,I1,ry,q1⟩=>thn (ho pins s1 σ H1 _ I1 q1) λu s2 ⟨x,H2,I2,rx,a,ov,ex,g,q2⟩ =>?_
 subst ex
 obtain rfl:u=Ar a:=rx
 exact d_in hu I2 g ry λs3 I3=>⟨.bl ov.isSome,H2,I3,rfl,q2⟩
theorem iw (hu:X.A.units+1<cLine)(hi:PE X i ty)(ho:PE X o td):PC X .NotIn i o (wA ty td):=by
 intro pins s σ H Q I h
 refine thn (hi pins s σ H _ I h) λiv s1 ⟨y,H1,I1,ry,q1⟩=>thn (ho pins s1 σ H1 _ I1 q1) λu s2 ⟨x,H2,I2,rx,a,ov,ex,g,q2⟩ =>?_
 subst ex
 obtain rfl:u=Ar a:=rx
 exact wx hu I2 g ry λs3 I3=>⟨.bl (!ov.isSome),H2,I3,rfl,q2⟩
theorem i6 (hu:X.A.units+1<cLine)(ho:PE X o td)(hi:PE X i ty)(hv:PE X value tv)(hs:swapsWith value (some (.Subscript o i pos')) pos.line X.env=pure false) :
  PS X (.Assign [.Subscript o i pos'] value pos) (zE td ty tv):=by
 intro pins s σ H D I h
 refine wpAny_Assign_Subscript (thn (hv pins s σ H _ I h) λr s1 ⟨v,H1,I1,rv,q1⟩=>thn (ho pins s1 σ H1 _ I1 q1) λu s2 ⟨x,H2,I2,rx,q2⟩=>thn (hi pins s2 σ H2 _ I2 q2) λiv s3 ⟨y,H3,I3,ry,a,H4,ex,g,q3⟩ =>?_) hs
 subst ex
 obtain rfl:u=Ar a:=rx
 exact sg hu I3 g ry rv λs4 I4=>⟨σ,H4,I4,q3⟩
end
theorem oq {P:Au}{w:AV}{H:Hp}(h:Heap)(hb:sysModules<h.objs.size):a6 P w H (h.push { cls :=.type "dict",data :=.dict #[] }) h.objs.size (.dK []) :=
 ⟨A7 _,beq_eq_false_iff_ne.mpr (B4 (AD hb)),[],.nil,Heap.DictOf.new h⟩
def yE:TE:=λ_ H Q=>∀p,H p=none->Q (.ref p) (upd H p (.dK []))
section
variable  {X:Cx}{pos:Pos}
theorem uI:PE X (.Dict [] [] pos) yE:=λpins s σ H Q I h =>
 wpAny_Dict_empty ⟨.ref s.heap.objs.size,_,I.laid (a:=s.heap.objs.size) (o :=.dK []) (t':=s.toks) (λ_ _ q=>zZ _ q) (Ag _) (oq s.heap I.big),rfl,h _ (I.hok.fresh (Ag _))⟩
end
def pJ:List (TE×TE)->St->Hp->(List (V×V)->Hp->Prop)->Prop
 | [],_,H,Q=>Q [] H
 | (tk,tv) :: r,σ,H,Q=>tk σ H λx H1=>tv σ H1 λy H2=>pJ r σ H2 λps H3=>Q ((x,y) :: ps) H3
abbrev VV:List (V×V)->List (z9×z9)->Prop:=Paired λp q=>RelV p.1 q.1/\RelV p.2 q.2
def PPs (X:Cx)(pos:Pos)(keys:List (Option Expr))(values:List Expr)(trs:List (TE×TE)):Prop :=
 ∀(pins:List (Addr×Obj)) (s:Ac) (σ:St) (H:Hp) (Q:List (V×V)->Hp->Prop),Inv X pins σ H s->pJ trs σ H Q →
  AA (AM X.prog X.w) X.A (evalPairs (pairTrees keys values X.env pos)) (λvs s'=>∃ps H',Inv X pins σ H' s'/\VV ps vs/\Q ps H') X.xe s
theorem wB {X:Cx}{pos:Pos}:PPs X pos [] [] []:=λpins s σ H Q I h=>pairTrees_nil_walk ⟨[],H,I,.nil,h⟩
theorem uJ {X:Cx}{pos:Pos}{k v:Expr}{ks:List (Option Expr)}{vs:List Expr}{tk tv:TE}{trs:List (TE×TE)}(hk:PE X k tk)(hv:PE X v tv)(hr:PPs X pos ks vs trs) :
  PPs X pos (some k :: ks) (v :: vs) ((tk,tv) :: trs):=λpins s σ H Q I h =>
 pairTrees_cons_walk (thn (hk pins s σ H _ I h) λu s1 ⟨x,H1,I1,rx,q1⟩=>thn (hv pins s1 σ H1 _ I1 q1) λw2 s2 ⟨y,H2,I2,ry,q2⟩ =>
  thn (hr pins s2 σ H2 _ I2 q2) λws s3 ⟨ps,H3,I3,rel,q3⟩=>⟨(x,y) :: ps,H3,I3,.cons ⟨rx,ry⟩ rel,q3⟩)
def eS (kvs more:List (Key×V)):List (Key×V):=more.foldl (λacc kv=>putK acc kv.1 kv.2) kvs
theorem KV.merge:∀{more:List (Key×V)} {rs:List (Key×z9)} {kvs:List (Key×V)} {vs:List (Key×z9)},KV more rs->KV kvs vs->KV (eS kvs more) (merged vs rs):=by
 intro more rs kvs vs r
 unfold KV at r
 induction r generalizing kvs vs with
 | nil=>intro q;exact q
 | @cons p q ps qs h t ih =>
  intro r0
  have e:KV (putK kvs p.1 p.2) (stored vs q.1 q.2):=by
   have:=r0.put p.1 h.2
   rw[<- h.1];exact this
  exact ih e
theorem fZ:∀(more kvs:List (Key×V)),(eS kvs more).length<=kvs.length+more.length
 | [],kvs=>by show kvs.length<=kvs.length+0;lia
 | p :: r,kvs=>by
  have h1:=fZ r (putK kvs p.1 p.2)
  have h2:=de kvs p.1 p.2
  show (eS (putK kvs p.1 p.2) r).length<=_
  rw[AR];lia
theorem jW {P:Au}{w:AV}:∀{kvs:List (Key×V)} {ws:List (z9×z9)},VV (kvs.map λkv=>(kV kv.1,kv.2)) ws->∃rs,Carries (bA P w) ws rs/\KV kvs rs
 | [],_,r=>by rw[FT] at r;cases r;exact ⟨[],True.intro,.nil⟩
 | p :: kvs,_,r=>by
  rw[AL] at r
  cases r with
  | @cons a b as bs h t =>
   obtain ⟨rs,c,q⟩:=jW (P:=P) (w:=w) t
   obtain ⟨b1,b2⟩:=b
   exact ⟨(p.1,b2) :: rs,⟨lG h.1,rfl,c⟩,.cons ⟨rfl,h.2⟩ q⟩
def zF (trs:List (TE×TE)):TE:=λσ H Q=>∀p,H p=none->pJ trs σ (upd H p (.dK [])) λps H2=>H2 p=some (.dK [])/\∃kvs:List (Key×V),ps=kvs.map (λkv=>(kV kv.1,kv.2))/\kvs.length<=15/\Q (.ref p) (upd H2 p (.dK (eS [] kvs)))
theorem wC {X:Cx}{pos:Pos}{keys:List (Option Expr)}{values:List Expr}{trs:List (TE×TE)}(h:PPs X pos keys values trs)(hall:keys.all (·.isSome)=true)(hl:keys.length=values.length)(h0:keys≠[])
  (h15:keys.length<=15):PE X (.Dict keys values pos) (zF trs):=by
 intro pins s σ H Q I q
 have hn:=I.hok.fresh (Ag s.heap.objs.size)
 have I1:=I.laid (a:=s.heap.objs.size) (o :=.dK []) (h':=s.heap.push { cls :=.type "dict",data :=.dict #[] }) (t':=s.toks) (λ_ _ q=>zZ _ q) (Ag _) (oq s.heap I.big)
 refine wpAny_Dict_walk (knd:=bA X.prog X.w) hall hl h0 h15 (thn (h pins _ σ _ _ I1 (q _ hn)) λws s2 ⟨ps,H2,I2,rel,e,kvs,ep,lk,q2⟩ =>?_)
 subst ep
 obtain ⟨rs,c,rk⟩:=jW (P:=X.prog) (w:=X.w) rel
 obtain ⟨z,hd,vs0,r0,dd⟩:=xx I2.hok e
 cases r0
 refine ⟨rs,c,dd,λh' dd' hs=>⟨.ref s.heap.objs.size,_,?_,rfl,q2⟩⟩
 have hz:(eS [] kvs).length<=Ao:=by
  have h1:=fZ kvs []
  rw[Ck] at h1
  rw[Dq];lia
 have he:∃q,h'.get? s.heap.objs.size=some q:=let ⟨q,_,_,hq,_⟩:=dd';⟨q,hq⟩
 exact mK I2 (by rw[e];exact True.intro) hs he (uH hz hd (rk.merge .nil) dd')
section
variable  {X:Cx}{pins:List (Addr×Obj)}{σ:St}{H:Hp}{s:Ac}{a:Addr}{y d:V}{u r:z9}{o:Option V}{A:Bd}{E:z9->Ac->Prop}
end
section
variable  {X:Cx}{o e f:Expr}{apos cpos:Pos}{td ty tx:TE}
end
section
variable  {X:Cx}{pins:List (Addr×Obj)}{σ:St}{H:Hp}{s:Ac}{a:Addr}{kvs:List (Key×V)}{A:Bd}{E:z9->Ac->Prop}
end
section
variable  {X:Cx}{pins:List (Addr×Obj)}{σ:St}{H:Hp}{s:Ac}{a:Addr}{y:V}{u:z9}{A:Bd}{E:z9->Ac->Prop}
end
open PySem PySem.Spec PyProof.Rows
section
variable  {X:Cx}
end
section
variable  {κ:Type}[DecidableEq κ]
end
end L2
namespace HT
open PySem PySem.Spec PyProof.Rows
section
variable  {prog:Au}{w:AV}{A:Bd}{E:z9->Ac->Prop}{s:Ac}{l:Addr}{xs:Array (Int×Tok)}
theorem lI {items:Array z9}{Q:z9->Ac->Prop}(hl:s.heap.IsTuple l items)
  (h:∀s₂:Ac,s₂={ s with heap:=s.heap.push { cls :=.type "tuple_iterator",data :=.fields #[.ref l,.int 0 0] } } →
   (s₂.heap.IsTupleIter s.heap.objs.size l 0/\s₂.heap.IsTuple l items)->(∀b∈[s.heap.objs.size,l],b<s₂.heap.objs.size)->l≠s.heap.objs.size->Q (.ref s.heap.objs.size) s₂) :
  AA (AM prog w) A (pyIter (.ref l)) Q E s:=by
 have hlt:l<s.heap.objs.size:=by obtain ⟨_,e,_⟩:=hl;exact An e
 refine Dk hl (h _ rfl ⟨⟨_,Am _ rfl,rfl,rfl⟩,?_⟩ (λb hb =>?_) (AD hlt))
 ·obtain ⟨o,e,c,d⟩:=hl
  exact ⟨o,zZ _ e,c,d⟩
 show b<(s.heap.push _).objs.size
 rw[B7]
 rcases AJ.mp hb with rfl | hb
 ·exact BK _
 ·rcases AJ.mp hb with rfl | hb
  ·exact Bo hlt
  ·cases hb
theorem lJ {h':Heap}(hk:∀b o,b∉[s.heap.objs.size]->(s.heap.push { cls :=.type "tuple_iterator",data :=.fields #[.ref l,.int 0 0] }).get? b=some o->h'.get? b=some o) :
  ∀b o,s.heap.get? b=some o->h'.get? b=some o:=λb o e=>by
 refine hk b o (λhm =>?_) (zZ _ e)
 rcases AJ.mp hm with e1 | hm
 ·exact absurd (e1 ▸ An e) (A5 _)
 ·cases hm
theorem wD {Q:z9->Ac->Prop}(hh:A.handled=none)(hl:s.heap.IsTuple l (Df xs))(hne:0<xs.size)
  (h:∀v h' tk,(Df xs)[argBest (λi j=>decide (numAt xs i>numAt xs j)) (xs.size-1)]? = some v->(∀b o,s.heap.get? b=some o->h'.get? b=some o)->Q v { s with heap:=h',toks:=tk }) :
  AA (AM prog w) A (call (.builtin "max") [.ref l]) Q E s:=by
 refine call_max_walk (lI hl λs₂ e st hfp hlI =>?_)
 subst e
 refine ⟨_,_,_,_,_,_,_,rfl,Fy (A:=A.in1) hh _ l hlI (Df xs),st,hfp,by simpa [Df] using hne,CmpOf.ints_gt (numAt xs) (λ_ _=>Gw),λv h' tk hP hk =>?_⟩
 exact h v h' tk (by simpa [Df] using hP) (lJ hk)
theorem wF {Q:z9->Ac->Prop}(hh:A.handled=none)(hl:s.heap.IsTuple l (Df xs))(hne:0<xs.size)
  (h:∀v h' tk,(Df xs)[argBest (λi j=>decide (numAt xs i<numAt xs j)) (xs.size-1)]? = some v->(∀b o,s.heap.get? b=some o->h'.get? b=some o)->Q v { s with heap:=h',toks:=tk }) :
  AA (AM prog w) A (call (.builtin "min") [.ref l]) Q E s:=by
 refine call_min_walk (lI hl λs₂ e st hfp hlI =>?_)
 subst e
 refine ⟨_,_,_,_,_,_,_,rfl,Fy (A:=A.in1) hh _ l hlI (Df xs),st,hfp,by simpa [Df] using hne,HW (numAt xs) (λ_ _=>Gw),λv h' tk hP hk =>?_⟩
 exact h v h' tk (by simpa [Df] using hP) (lJ hk)
end
end HT
namespace L2
open PySem PyProof.Rows
section
variable  {X:Cx}{K:z8}
theorem ii2 {i j:Int}{t1 t2:Tok}:Df #[(i,t1),(j,t2)] = #[Cb i t1,Cb j t2]:=by simp[Df]
theorem si (hc:X.calm=true)(hk:X.K=K:=by rfl):bM X (.builtin "min") (λxs H Q=>∃(p:Addr) (i j:Int),xs=[.ref p]/\SqT K H p [.int i,.int j]/\Q (.int (if j<i then j else i)) H):=by
 subst hk
 intro pins s σ H xs us Q I r h
 obtain ⟨p,i,j,rfl,hq,q⟩:=h
 obtain ⟨u,rfl,ru⟩:=vals1 r
 cases (show u=Ar p from ru)
 obtain ⟨its,rv,ht,_⟩:=I.tuple hq
 obtain ⟨x,y,rfl,⟨t1,rfl⟩,⟨t2,rfl⟩⟩:=vals2 rv
 refine HT.wF (I.ok.hd hc) (xs := #[(i,t1),(j,t2)]) (by rw[ii2];exact ht) (by simp) λv h' tk hv k =>?_
 have ev:∃t,v = .int (if j<i then j else i) t:=by
  have hb:argBest (λa b=>decide (numAt #[(i,t1),(j,t2)] a<numAt #[(i,t1),(j,t2)] b)) (#[(i,t1),(j,t2)].size-1)=if j<i then 1 else 0:=by
   show (if decide (j<i)=true then 1 else 0)=_
   by_cases h:j<i
   ·rw[decide_eq_true h,if_pos h,if_pos rfl]
   ·rw[decide_eq_false h,if_neg h,if_neg Ak]
  rw[hb,ii2] at hv
  by_cases h:j<i
  ·rw[if_pos h] at hv ⊢
   exact ⟨t2,(AI (show some (Cb j t2)=some v from hv)).symm⟩
  ·rw[if_neg h] at hv ⊢
   exact ⟨t1,(AI (show some (Cb i t1)=some v from hv)).symm⟩
 obtain ⟨t,rfl⟩:=ev
 exact ⟨.int _,H,I.kept k,⟨_,rfl⟩,q⟩
theorem sj (hc:X.calm=true)(hk:X.K=K:=by rfl):bM X (.builtin "max") (λxs H Q=>∃(p:Addr) (i j:Int),xs=[.ref p]/\SqT K H p [.int i,.int j]/\Q (.int (if j>i then j else i)) H):=by
 subst hk
 intro pins s σ H xs us Q I r h
 obtain ⟨p,i,j,rfl,hq,q⟩:=h
 obtain ⟨u,rfl,ru⟩:=vals1 r
 cases (show u=Ar p from ru)
 obtain ⟨its,rv,ht,_⟩:=I.tuple hq
 obtain ⟨x,y,rfl,⟨t1,rfl⟩,⟨t2,rfl⟩⟩:=vals2 rv
 refine HT.wD (I.ok.hd hc) (xs := #[(i,t1),(j,t2)]) (by rw[ii2];exact ht) (by simp) λv h' tk hv k =>?_
 have ev:∃t,v = .int (if j>i then j else i) t:=by
  have hb:argBest (λa b=>decide (numAt #[(i,t1),(j,t2)] a>numAt #[(i,t1),(j,t2)] b)) (#[(i,t1),(j,t2)].size-1)=if j>i then 1 else 0:=by
   show (if decide (j>i)=true then 1 else 0)=_
   by_cases h:j>i
   ·rw[decide_eq_true h,if_pos h,if_pos rfl]
   ·rw[decide_eq_false h,if_neg h,if_neg Ak]
  rw[hb,ii2] at hv
  by_cases h:j>i
  ·rw[if_pos h] at hv ⊢
   exact ⟨t2,(AI (show some (Cb j t2)=some v from hv)).symm⟩
  ·rw[if_neg h] at hv ⊢
   exact ⟨t1,(AI (show some (Cb i t1)=some v from hv)).symm⟩
 obtain ⟨t,rfl⟩:=ev
 exact ⟨.int _,H,I.kept k,⟨_,rfl⟩,q⟩
end
open PySem PyProof.Rows
section
variable  {X:Cx}
end
end L2
namespace HT
open PySem PySem.Spec PyProof.Rows
section
variable  {prog:Au}{w:AV}{A:Bd}{R:Result->Ac->Prop}{I:Addr}{fp wr:List Addr}{n:Nat}{P:Nat->z9->Prop}{St:Nat->Heap->Prop}{kw:List (Str×z9)}
end
section
variable  {prog:Au}{w:AV}{A:Bd}{E:z9->Ac->Prop}{s:Ac}{l:Addr}{xs:Array (Int×Tok)}
end
end HT
namespace L2
open PySem PyProof.Rows
section
variable  {X:Cx}{x:Str}{id:String}{e:Expr}{es:List Expr}{kws:List Keyword}{p pos:Pos}{t tk:TA}{ks:List Str}{r:List V->List V->Hp->VK->Prop}
end
open PySem PyProof.Rows
section
variable  {X:Cx}
theorem yF {ns:List Int}{j:Nat}(h:j<ns.length):ns.getD j 0∈ns:=by
 rw[Aq,Ab h]
 exact DG h
theorem yG {ns:List Int}{a:Int}(h:a∈ns):∃j,j<ns.length/\ns.getD j 0=a:=by
 obtain ⟨j,hj,e⟩:=D9 h
 exact ⟨j,hj,by rw[Aq,Ab hj];exact e⟩
end
open PySem PyProof.Rows
section
variable  {X:Cx}
def qE (ns ms:List Int)(j:Nat):Bool:=ns.getD j 0 == ms.getD j 0
theorem sk {ns ms:List Int}(h:ns.length=ms.length):((Bv ns.length).all λj=>qE ns ms j)=decide (ns=ms):=by
 rw[DK,decide_eq_true_iff,Dg]
 constructor
 ·intro hh
  refine List.ext_getElem h λj h1 h2 =>?_
  have:=hh j (BA.mpr h1)
  unfold qE at this
  rw[Aq,Aq,Ab h1,Ab h2] at this
  exact of_decide_eq_true (by simpa using this)
 ·rintro rfl j _
  exact beq_self_eq_true _
theorem sq {ns ms:List Int}:((Bv (min ns.length ms.length)).all (qE ns ms) && ns.length == ms.length)=decide (ns=ms):=by
 by_cases h:ns.length=ms.length
 ·rw[<- h,E7,show (ns.length == ns.length)=true from beq_self_eq_true _,Bool.and_true]
  exact sk h
 ·have ne:ns≠ms:=λz=>h (by rw[z])
  rw[decide_eq_false ne,show (ns.length == ms.length)=false from by simpa using h,CU]
theorem uK {ns:List Int}{us:List z9}(r:Vals (ns.map V.int) us){j:Nat}(h:j<us.toArray.size):∃t,us.toArray[j] = .int (ns.getD j 0) t:=by
 have l:=r.length
 rw[z4] at l
 rw[Ad] at h
 have e1:(ns.map V.int)[j]? = some (.int (ns.getD j 0)):=by
  rw[Aw,Aq,Ab (by lia)]
  rfl
 obtain ⟨u,g1,q1⟩:=r.get e1
 have f1:us.toArray[j]=u:=by simp[Af] at g1;obtain ⟨_,g⟩:=g1;simpa using g
 rw[f1]
 exact q1
theorem wG {k:Nat}(hr:cg k X.A):OpR X (BQ .Eq) (λx y H Q=>∃(a b:Addr) (ns ms:List Int),x = .ref a/\y = .ref b/\SqT X.K H a (ns.map V.int)/\SqT X.K H b (ms.map V.int)/\Q (.bl (decide (ns=ms))) H):=by
 intro pins s σ H x y v u Q I rx ry h
 obtain ⟨a,b,ns,ms,rfl,rfl,h1,h2,q⟩:=h
 cases (show v=Ar a from rx)
 cases (show u=Ar b from ry)
 obtain ⟨its,r1,p1,_⟩:=I.tuple h1
 obtain ⟨its2,r2,p2,_⟩:=I.tuple h2
 have l1:=r1.length
 have l2:=r2.length
 rw[z4] at l1 l2
 have hu:=hr.un
 have hu1:X.A.units<cLine:=by lia
 have R:=Fl (A:=X.A) (e:=qE ns ms) (show s.heap.IsTuple a its.toArray from p1) (show s.heap.IsTuple b its2.toArray from p2) hu1 (by
  intro j h1 h2
  obtain ⟨t1,g1⟩:=uK r1 h1
  obtain ⟨t2,g2⟩:=uK r2 h2
  rw[g1,g2]
  exact Dj _ t1 _ t2)
 rw[Ad,Ad, <- l1, <- l2,sq] at R
 exact R _ _ _ _ ⟨.bl _,H,I,rfl,q⟩
def Wd (i:Int):Prop:=i.natAbs<2 ^ 4000
theorem Wd.bits {i:Int}(h:Wd i):Builtin.Int.intBits i<=2 ^ 20:=by
 unfold Builtin.Int.intBits
 split
 ·exact A7 _
 ·have:i.natAbs.log2<4000:=by
   rcases DJ i.natAbs with h0 | hp
   ·rw[h0];decide
   ·exact (Nat.log2_lt (by lia)).mpr h
  lia
def zG (i j:Int):Prop:=Wd i/\Wd j
theorem dY:OpR X (binaryOp .Mult) (rI zG λi j =>.int (i*j)):=opI λ_ _ _ _ _ _ _ hc q=>mul_int q (IntMulOk.of_bits hc.1.bits hc.2.bits)
def zI (_ j:Int):Prop:=0<j/\Wd j
theorem gR:OpR X (binaryOp .FloorDiv) (rI zI λi j =>.int (i/j)):=opI λi j _ _ _ _ _ hc q=>by
 have h1:(0:Int)<j:=hc.1
 have h2:j.natAbs.log2<9000:=by
  have:j.natAbs.log2<4000:=(Nat.log2_lt (by lia)).mpr hc.2
  lia
 refine floordiv_int (by lia) ?_ (.inl (PyProof.noPylong_of_log2 h2))
 rw[E3 i (by lia)]
 exact q
structure wH (P:Au)(w:AV)(K:z8)(mg:Str->Option z9)(base:Heap)(k:Nat)(x:Str)(ps:List Str)(sp:Sp)(dv:V):Prop where
 ex:∃f fd d,a7 P w K mg base CX0 k f fd ps sp/\mg x=some (.ref f)/\PySem.W.keepIn K (.ref f)=true/\Binds K fd ps [d]/\RelV dv d
theorem qF {dv:V}{j k:Nat}{x:Str}{ps:List Str}{sp:Sp}{e:Expr}{es:List Expr}{t:TA}{p pos:Pos}(C:wH X.prog X.w X.K X.mg X.base k x ps sp dv)(hr:cg j X.A)(hj:k<=j)(hg:Gl X x)(ha:PA X (e :: es) t)
  (hdb:(x == ("__debug__" : Str))=false:=by decide) (he:Bt (e :: es) X.env=(false,eval e X.env) :: Bt es X.env:=by rfl) (hpl:(Ez pos (Bt es X.env)).any (·.1)=false:=by rfl) :
  PE X (.Call (.Name x p) (e :: es) [] pos) (tO sp [dv] E0 t):=by
 obtain ⟨f,fd,d,F,m,kp,b,rd⟩:=C.ex
 exact qm F (hr.mono hj) hg m kp b (.cons rd .nil) xt ha hdb he hpl
end
section
variable  {P:Au}{w:AV}{K:z8}{mg:Str->Option z9}{base:Heap}
structure uL (K:z8)(x qual:Str)(st:Stmt)(f:Addr)(fd:A3)(T:Addr):Prop where
 ex:∃(oc:z9) (od:Option Addr) (kV doc pm:z9) (an:Option Addr) (cdv ct:z9) (osl:Array (Option z9)),
  fd=PySem.W.fnOf x qual (bE st) (ba st) (ak st) (.ref T) kV doc pm an cdv ct/\K.lookup f=some ⟨oc,od,.func fd,osl⟩/\PySem.W.codeIn K cdv qual=true
 kp:PySem.W.keepIn K (.ref f)=true
theorem uL.ok {x qual:Str}{st:Stmt}{f T:Addr}{fd:A3}{N ps:List Str}{k:Nat}{sp:Sp}(F:uL K x qual st f fd T)(S:aE N ps (ak st))(len:∀vs H Q E,sp vs H Q E->vs.length=ps.length)
  (hbody:∀(cdv:z9) (A:Bd) (outer:List Env) (s:Ac) (H:Hp) (vs:List V) (Q:VK) (E:XK),cg k (A.deeper (envOfC qual (ak st) s.heap.objs.size f cdv))->sp vs H Q E →
   ∃t,PSs (iU CX0 P w K mg base N qual (ak st) f cdv A outer s H E).nox (ba st) t/\t { nx:=λ_ H'=>Q .non H',rt:=Q } (start N vs) H):a7 P w K mg base CX0 (k+1) f fd ps sp:=by
 obtain ⟨oc,od,kV,doc,pm,an,cdv,ct,osl,rfl,lk,hcd⟩:=F.ex
 refine xr lk hcd S len λA outer s H vs Q E hr hsp =>?_
 obtain ⟨t,h,q⟩:=hbody cdv A outer s H vs Q E hr hsp
 exact ⟨t,h.nox,q⟩
theorem wI {x qual:Str}{st:Stmt}{f T:Addr}{oc:z9}{od an:Option Addr}{osl:Array (Option z9)}{kV doc pm cdv ct:z9}(l:K.lookup f=some ⟨oc,od,.func (PySem.W.fnOf x qual (bE st) (ba st) (ak st) (.ref T) kV doc pm an cdv ct),osl⟩)
  (c:PySem.W.codeIn K cdv qual=true) (k:PySem.W.keepIn K (.ref f)=true):uL K x qual st f (PySem.W.fnOf x qual (bE st) (ba st) (ak st) (.ref T) kV doc pm an cdv ct) T:=⟨⟨oc,od,kV,doc,pm,an,cdv,ct,osl,rfl,l,c⟩,k⟩
end
end L2
namespace L2.Rev
open PySem
open Sem (wp)
section
variable  {prog:Au}{w:AV}{A:Bd}{E:z9->Ac->Prop}{s:Ac}
end
end L2.Rev
namespace L2
open PySem PySem.Spec PyProof.Rows
section
variable  {X:Cx}
theorem ou:Bz "reversed" = some (.type "reversed"):=by decide +kernel
theorem ow:∀{xs:List V} {us:List z9},Vals xs us->Vals xs.reverse us.reverse
 | [],[],_ =>.nil
 | x :: xs,u :: us,.cons h t=>by
  rw[G6,G6]
  exact (ow t).append (.cons h .nil)
end
end L2
namespace L2.Rem
open PySem PySem.SeqAt PySem.MeetsSeq
open AutoSeq1 (wpAny_loadPart')
end L2.Rem
namespace L2
open PySem PySem.Spec PyProof.Rows
section
variable  {X:Cx}
theorem wJ {k:Nat}(hr:cg k X.A):OpR X (BQ .Eq) (λx y H Q=>∃a b xs ys,x = .ref a/\y = .ref b/\SqL X.K H a xs/\SqL X.K H b ys/\Paired (gj X.K H 20) xs ys/\Q (.bl true) H):=by
 intro pins s σ H x y v u Q I rx ry h
 obtain ⟨a,b,xs,ys,rfl,rfl,h1,h2,p,q⟩:=h
 cases (show v=Ar a from rx)
 cases (show u=Ar b from ry)
 obtain ⟨its,r1,p1,_⟩:=I.list h1
 obtain ⟨its2,r2,p2,_⟩:=I.list h2
 have l1:=r1.length
 have l2:=r2.length
 have pl:=CO p
 have hu:=hr.un
 have hu1:X.A.units<cLine:=by lia
 have R:=EG (A:=X.A) (e:=λ_=>true) p1.isList p2.isList (by rw[Ad,Ad, <- l1, <- l2,pl]) hu1 (dU p r1 r2 λx y u v h1 h2 h3=>kX I 20 _ x y u v (by show X.A.units+1+_<cLine;lia) h1 h2 h3)
 rw[all_true] at R
 exact R _ _ _ _ ⟨.bl true,H,I,rfl,q⟩
end
open PySem PySem.Spec PyProof.Rows
theorem uM {xs:List Int}{d:Int}(h0:0<=d)(h1:d<xs.length):∃v,v∈xs/\atI (xs.map V.int) d=some (.int v):=by
 obtain ⟨n,rfl⟩:∃n:Nat,d=n:=⟨d.toNat,by lia⟩
 have hn:n<xs.length:=by lia
 refine ⟨xs[n],DG hn,cN ?_⟩
 rw[Aw,Ab hn]
 rfl
theorem wK {α:Type}{g:α -> Addr}{ts:List α}{d:Int}(h0:0<=d)(h1:d<ts.length):∃u,u∈ts/\atI (ts.map λt=>V.ref (g t)) d=some (.ref (g u)):=by
 obtain ⟨n,rfl⟩:∃n:Nat,d=n:=⟨d.toNat,by lia⟩
 have hn:n<ts.length:=by lia
 refine ⟨ts[n],DG hn,cN ?_⟩
 rw[Aw,Ab hn]
 rfl
theorem mL (k:Int):∀ps:List Int,inV (.int k) (ps.map V.int)=decide (k∈ps)
 | []=>by simp[inV]
 | p :: ps=>by
  have ih:=mL k ps
  unfold inV at ih ⊢
  rw[AL,DQ,ih]
  have e:eqV (.int p) (.int k)=(p == k):=rfl
  rw[e]
  by_cases h:p=k
  ·subst h;simp
  ·rw[beq_eq_false_iff_ne.mpr h,GJ]
   apply decide_eq_decide.mpr
   rw[AJ]
   exact ⟨.inr,λx=>x.elim (λy=>absurd y.symm h) id⟩
def Pt (n:Nat)(H:Hp)(p:Addr):Prop:=∃xs:List Int,xs.length=n/\H p=some (.lst (xs.map V.int))
structure Bu (n:Nat)(p:Addr)(H H':Hp):Prop where
 pot:Pt n H' p
 st:∀q o,q≠p->H q=some o->H' q=some o
theorem Pt.same {n:Nat}{p:Addr}{H H1:Hp}(a:Pt n H p)(s:aA H H1):Pt n H1 p:=by obtain ⟨xs,l,e⟩:=a;exact ⟨xs,l,s _ _ e⟩
theorem Pt.neT {n:Nat}{p b:Addr}{H:Hp}{ys:List V}(a:Pt n H p)(h:H b=some (.tup ys)):b≠p:=by
 obtain ⟨xs,_,e⟩:=a
 exact iK h e (by intro z;cases z)
theorem Bu.refl {n:Nat}{p:Addr}{H:Hp}(h:Pt n H p):Bu n p H H:=⟨h,λ_ _ _ z=>z⟩
theorem Bu.trans {n:Nat}{p:Addr}{H H1 H2:Hp}(a:Bu n p H H1)(b:Bu n p H1 H2):Bu n p H H2:=⟨b.pot,λq o m z=>b.st q o m (a.st q o m z)⟩
theorem Bu.same {n:Nat}{p:Addr}{H H1 H2:Hp}(a:Bu n p H H1)(b:aA H1 H2):Bu n p H H2:=⟨a.pot.same b,λq o m z=>b _ _ (a.st q o m z)⟩
theorem Bu.put {n:Nat}{p:Addr}{H H1:Hp}(a:Bu n p H H1){ys:List Int}(l:ys.length=n):Bu n p H (upd H1 p (.lst (ys.map V.int))):=⟨⟨ys,l,ah⟩,λq o m z=>by rw[aD m];exact a.st q o m z⟩
theorem Bu.bQ {n:Nat}{p l:Addr}{H H1:Hp}(a:Bu n p H H1)(hl:H l=none)(np:l≠p)(o:HO):Bu n p H (upd H1 l o):=⟨by obtain ⟨xs,z,e⟩:=a.pot;exact ⟨xs,z,by rw[aD np.symm];exact e⟩,λq u m z=>by rw[aD (aN z hl)];exact a.st q u m z⟩
theorem Bu.tup {n:Nat}{p q:Addr}{H H1:Hp}(a:Bu n p H H1)(h:Pt n H p){xs:List V}(t:H q=some (.tup xs)):H1 q=some (.tup xs):=a.st q _ (h.neT t) t
theorem Bu.fresh {n:Nat}{p:Addr}{H H':Hp}{o:HO}(h:H p=none)(b:Bu n p (upd H p o) H'):aA H H':=λq u e=>by
 have m:q≠p:=aN e h
 refine b.st q u m ?_
 rw[aD m]
 exact e
def Tus (H:Hp)(ts:List (Addr×List Int)):Prop:=∀u∈ts,H u.1=some (.tup (u.2.map V.int))
theorem Tus.same {H H':Hp}{ts:List (Addr×List Int)}(h:Tus H ts)(s:aA H H'):Tus H' ts:=λu hu=>s _ _ (h u hu)
theorem Tus.bu {n:Nat}{p:Addr}{H H':Hp}{ts:List (Addr×List Int)}(h:Tus H ts)(b:Bu n p H H')(hp:Pt n H p):Tus H' ts:=λu hu=>b.tup hp (h u hu)
theorem Tus.snoc {H:Hp}{ts:List (Addr×List Int)}(h:Tus H ts){u:Addr×List Int}(e:H u.1=some (.tup (u.2.map V.int))):Tus H (ts++[u]):=λv hv=>by
 rcases As.mp hv with z | z
 ·exact h v z
 ·rw[Ah] at z;subst z;exact e
variable  {X:Cx}
open PySem PySem.Spec PyProof.Rows
section
variable  {X:Cx}
theorem pK {k:Int}:∀{ns:List Int} {m:Nat} (h:m<ns.length),m<ns.idxOf k->ns[m]≠k
 | [],m,h,_=>absurd h (EX _)
 | n :: ns,0,_,l=>by
  intro z
  have e:(n :: ns)[0]=n:=rfl
  rw[e] at z
  subst z
  simp at l
 | n :: ns,m+1,h,l=>by
  have h':m<ns.length:=Nat.lt_of_succ_lt_succ h
  show ns[m]≠k
  refine pK h' ?_
  by_cases e:n=k
  ·subst e;simp at l
  ·rw[List.idxOf_cons,show (n == k)=false by simpa using e] at l
   simp at l
   exact l
theorem sr:MtR X "list.index" (λx vs H Q=>∃(p:Addr) (ns:List Int) (k:Int),x = .ref p/\vs=[.int k]/\H p=some (.lst (ns.map V.int))/\k∈ns/\ns.length<=100000/\Q (.int (ns.idxOf k:Nat)) H):=by
 intro pins s σ H x vs v us Q I rx rv h
 obtain ⟨p,ns,k,rfl,rfl,hp,hk,hz,q⟩:=h
 cases rx
 obtain ⟨u,rfl,⟨t,rfl⟩⟩:=vals1 rv
 obtain ⟨z,its,n,r,e1⟩:=(show a6 X.prog X.w H s.heap p (.lst _) from I.hok p _ hp)
 have hi:CA its ns:=intsAre_of r
 have hlen:=hi.length
 have hj:ns.idxOf k<ns.length:=Dx.mpr hk
 refine EV Fz ⟨_,e1,rfl⟩ PySem.F.entry_list_index (PySem.F.args_list_index_2 _ _) (SeqAt.list_indexAt p its.toArray n none #[] (.int k t) (isInt k) (ns.idxOf k) (by simpa [hlen] using hj) (by lia) ?_ ?_) ⟨e1,λy hy=>lC hi y hy,⟨.int _,H,I.tok _,⟨_,rfl⟩,q⟩⟩
 ·show isInt k its[ns.idxOf k]=true
  rw[HY k hi _ (by lia) hj];simpa using GK hj
 ·intro j hjs hlt
  show isInt k its[j]=false
  rw[HY k hi j (by simpa using hjs) (by lia)]
  simpa using pK (by lia) hlt
def qG (K:z8):R2:=λx y H Q=>∃a b xs ys,x = .ref a/\y = .ref b/\SqT K H a xs/\SqT K H b ys/\xs.length+ys.length<=Ao/\(xs=[]->Q (.ref b) H)/\(ys=[]->Q (.ref a) H)/\(xs≠[]->ys≠[]->∀p,H p=none->Q (.ref p) (upd H p (.tup (xs++ys))))
theorem uN:OpR X (binaryOp .Add) (qG X.K):=by
 intro pins s σ H x y v u Q I rx ry h
 obtain ⟨a,b,xs,ys,rfl,rfl,ha,hb,hz,q1,q2,q3⟩:=h
 by_cases hx:xs=[]
 ·cases rx
  cases ry
  obtain ⟨its,r1,p1,_⟩:=I.tuple ha
  obtain ⟨its2,r2,p2,_⟩:=I.tuple hb
  obtain ⟨⟨c1,d1,da1,s1⟩,o1,k1,n1,g1⟩:=id p1
  obtain ⟨⟨c2,d2,da2,s2⟩,o2,k2,n2,g2⟩:=id p2
  simp only at k1 g1 k2 g2
  subst k1 g1 k2 g2
  have e0:its=[]:=r1.i3.mpr hx
  exact Hg ⟨_,o1,rfl⟩ ⟨_,o2,rfl⟩ FF GO Ey En (Ee _ _)
   (tuple_addW0 a b its.toArray its2.toArray n1 n2 d1 d2 s1 s2 (by simp[e0])) ⟨o1,o2,⟨.ref b,H,I,rfl,q1 hx⟩⟩
 ·exact vL pins s σ H _ _ v u Q I rx ry ⟨a,b,xs,ys,rfl,rfl,ha,hb,hx,hz,q2,λhy=>q3 hx hy⟩
theorem qG.one {K:z8}{H:Hp}{Q:VK}{a b:Addr}{xs ys:List V}(ha:H a=some (.tup xs))(hb:H b=some (.tup ys))(hz:xs.length+ys.length<=Ao)(q:∀p H',aA H H'->H' p=some (.tup (xs++ys))->Q (.ref p) H'):qG K (.ref a) (.ref b) H Q:=by
 refine ⟨a,b,xs,ys,rfl,rfl,SqT.of ha,SqT.of hb,hz,λz =>?_,λz =>?_,λ_ _ p hp=>q p _ (ai hp _) ah⟩
 ·subst z;exact q b H (aA.refl _) hb
 ·subst z;exact q a H (aA.refl _) (by rw[AU];exact ha)
end
open PySem PySem.Spec PyProof.Rows
section
variable  {X:Cx}
theorem lK:zd X (λo i H Q=>∃(p:Addr) (xs:List V) (k:Nat) (v:V),o = .ref p/\i = .int k/\SqL X.K H p xs/\xs[k]? = some v/\Q v H):=by
 intro pins s σ H o i ov iv Q I ro ri h
 obtain ⟨p,xs,k,v,rfl,rfl,hq,he,q⟩:=h
 cases (show ov=Ar p from ro)
 obtain ⟨t,rfl⟩:=(show ∃t,iv=Cb k t from ri)
 obtain ⟨its,r,pl,hz⟩:=I.list hq
 obtain ⟨w,ew,rw'⟩:=r.get he
 have hk:k<xs.length:=(Af.mp he).1
 have hn:=ia
 exact wpAny_getItem_list pl.isList (by lia) (by lia) (by simpa using ew) ⟨v,H,I,rw',q⟩
def EqS (K:z8)(H:Hp):Nat->V->V->Prop
 | 0,x,y=>(∃i,x = .int i/\y = .int i)\/(∃i,x = .str i/\y = .str i)\/∃a,x = .ref a/\y = .ref a
 | n+1,x,y=>(∃i,x = .int i/\y = .int i)\/(∃i,x = .str i/\y = .str i)\/(∃a,x = .ref a/\y = .ref a)\/∃a b xs ys,x = .ref a/\y = .ref b/\((SqT K H a xs/\SqT K H b ys)\/(SqL K H a xs/\SqL K H b ys))/\Paired (EqS K H n) xs ys
theorem dD {K:z8}{H:Hp}{n:Nat}{s:Ac}{A:Bd}{xs ys:List V}{us vs:List z9}(p:Paired (EqS K H n) xs ys)(r1:Vals xs us)(r2:Vals ys vs)
  (ih:∀x y u v,EqS K H n x y->RelV x u->RelV y v->C0 A s u v true):∀j (h1:j<us.toArray.size) (h2:j<vs.toArray.size),C0 A s us.toArray[j] vs.toArray[j] true:=λj h1 h2=>by
 rw[Ad] at h1 h2
 have l1:=r1.length
 have l2:=r2.length
 have e1:xs[j]? = some xs[j]:=Ab (by omega)
 have e2:ys[j]? = some ys[j]:=Ab (by omega)
 obtain ⟨u,g1,q1⟩:=r1.get e1
 obtain ⟨v,g2,q2⟩:=r2.get e2
 have f1:us.toArray[j]=u:=by simp[Af] at g1;obtain ⟨_,g⟩:=g1;simpa using g
 have f2:vs.toArray[j]=v:=by simp[Af] at g2;obtain ⟨_,g⟩:=g2;simpa using g
 rw[f1,f2]
 exact ih _ _ u v (ie p e1 e2) q1 q2
theorem gS {A:Bd}{s:Ac}{x y:V}{u v:z9}(h:(∃i,x = .int i/\y = .int i)\/(∃i,x = .str i/\y = .str i)\/∃a,x = .ref a/\y = .ref a)(ru:RelV x u)(rv:RelV y v):C0 A s u v true:=by
 rcases h with ⟨i,rfl,rfl⟩ | ⟨i,rfl,rfl⟩ | ⟨a,rfl,rfl⟩
 ·obtain ⟨t,rfl⟩:=(show ∃t,u=Cb i t from ru)
  obtain ⟨t',rfl⟩:=(show ∃t,v=Cb i t from rv)
  have:=Dj (A:=A) (s:=s) i t i t'
  rw[beq_self_eq_true] at this
  exact this
 ·obtain ⟨t,rfl⟩:=(show ∃t,u=Value.str i t from ru)
  obtain ⟨t',rfl⟩:=(show ∃t,v=Value.str i t from rv)
  have:=GB (A:=A) (s:=s) i t i t'
  rw[show (i == i)=true by simp] at this
  exact this
 ·cases (show u=Ar a from ru)
  cases (show v=Ar a from rv)
  exact DL _
theorem mN {pins:List (Addr×Obj)}{σ:St}{H:Hp}{s:Ac}(I:Inv X pins σ H s):∀(n:Nat) (A:Bd) (x y:V) (u v:z9),A.units+n<cLine->EqS X.K H n x y->RelV x u->RelV y v->C0 A s u v true
 | 0,A,x,y,u,v,_,h,ru,rv=>gS h ru rv
 | n+1,A,x,y,u,v,hA,h,ru,rv=>by
  rcases h with h | h | h | ⟨a,b,xs,ys,rfl,rfl,hs,p⟩
  ·exact gS (.inl h) ru rv
  ·exact gS (.inr (.inl h)) ru rv
  ·exact gS (.inr (.inr h)) ru rv
  ·cases (show u=Ar a from ru)
   cases (show v=Ar b from rv)
   by_cases hab:a=b
   ·subst hab;exact DL _
   refine GC hab ?_
   have ih:∀x y u v,EqS X.K H n x y->RelV x u->RelV y v->C0 A.in1 s u v true:=λx y u v h1 h2 h3=>mN I n A.in1 x y u v (by show A.units+1+n<cLine;lia) h1 h2 h3
   have pl:=CO p
   rcases hs with ⟨h1,h2⟩ | ⟨h1,h2⟩
   ·obtain ⟨its,r1,p1,_⟩:=I.tuple h1
    obtain ⟨its2,r2,p2,_⟩:=I.tuple h2
    have q:=Fl (e:=λ_=>true) (show s.heap.IsTuple a its.toArray from p1) (show s.heap.IsTuple b its2.toArray from p2) (by lia) (dD p r1 r2 ih)
    have ez:its.toArray.size=its2.toArray.size:=by rw[Ad,Ad, <- r1.length, <- r2.length,pl]
    rw[all_true,ez,beq_self_eq_true] at q
    exact q
   ·obtain ⟨its,r1,p1,_⟩:=I.list h1
    obtain ⟨its2,r2,p2,_⟩:=I.list h2
    have q:=EG (e:=λ_=>true) p1.isList p2.isList (by rw[Ad,Ad, <- r1.length, <- r2.length,pl]) (by lia) (dD p r1 r2 ih)
    rw[all_true] at q
    exact q
theorem wL {k:Nat}(hr:cg k X.A):OpR X (BQ .NotEq) (λx y H Q=>∃a b xs ys,x = .ref a/\y = .ref b/\SqT X.K H a xs/\SqT X.K H b ys/\Paired (EqS X.K H 20) xs ys/\Q (.bl false) H):=by
 intro pins s σ H x y v u Q I rx ry h
 obtain ⟨a,b,xs,ys,rfl,rfl,h1,h2,p,q⟩:=h
 cases (show v=Ar a from rx)
 cases (show u=Ar b from ry)
 obtain ⟨its,r1,p1,_⟩:=I.tuple h1
 obtain ⟨its2,r2,p2,_⟩:=I.tuple h2
 have l1:=r1.length
 have l2:=r2.length
 have pl:=CO p
 have hu:=hr.un
 have hu1:X.A.units<cLine:=by lia
 have R:=SeqAt.RcNeAt.tuples (A:=X.A) (e:=λ_=>true) (show s.heap.IsTuple a its.toArray from p1) (show s.heap.IsTuple b its2.toArray from p2) hu1 (dD p r1 r2 λx y u v h1 h2 h3=>mN I 20 _ x y u v (by show X.A.units+1+_<cLine;lia) h1 h2 h3)
 rw[Ad,Ad, <- l1, <- l2,pl,E7,beq_self_eq_true,all_true] at R
 exact R _ _ _ _ ⟨.bl false,H,I,rfl,q⟩
end
end L2
namespace L2.RvT
open PySem PyProof.Rows
open Sem (wp)
theorem iy:Manifest.owners.lookup (String.ofList ['d', 'e', 's', 'r', 'e', 'v', 'e', 'r'].reverse)=some Manifest.sig_reversed:=by kernel_rfl
theorem slot_next:Slot "reversed" "__next__" "reversed.__next__" :=
 .of (owner := "reversed") (n := "__next__") (by rw[DA,Ci];kernel_rfl) (by decide +kernel) (by decide +kernel) (by decide +kernel)
  (by first | exact .inl (by decide +kernel) | exact .inr (by decide +kernel)) (by rw[CV];kernel_rfl)
theorem entry_next:entryFor table "reversed.__next__" = some Builtin.«reversed.__next__» := FH (by kernel_rfl)
theorem args_next (a:z9):argsOk "reversed.__next__" ⟨[a],[]⟩:=by
 unfold argsOk;rw[GS (id := "reversed.__next__") (n:=['_', '_', 't', 'x', 'e', 'n', '_', '_']) (o:=['d', 'e', 's', 'r', 'e', 'v', 'e', 'r']) (by kernel_rfl) iy];kernel_rfl
theorem lM:Slot "reversed" "__iter__" "reversed.__iter__" :=
 .of (owner := "reversed") (n := "__iter__") (by rw[DA,Ci];kernel_rfl) (by decide +kernel) (by decide +kernel) (by decide +kernel)
  (by first | exact .inl (by decide +kernel) | exact .inr (by decide +kernel)) (by rw[CV];kernel_rfl)
theorem su (a:z9):argsOk "reversed.__iter__" ⟨[a],[]⟩:=by
 unfold argsOk;rw[GS (id := "reversed.__iter__") (n:=['_', '_', 'r', 'e', 't', 'i', '_', '_']) (o:=['d', 'e', 's', 'r', 'e', 'v', 'e', 'r']) (by kernel_rfl) iy];kernel_rfl
theorem pL:entryFor table "reversed.__iter__" = some Builtin.«dict_keyiterator.__iter__» :=
 entryFor_alias (id' := "dict_keyiterator.__iter__") (by kernel_rfl) (by first | rfl | decide +kernel | (unfold String.splitOn;simp +decide [String.splitOnAux])) (by decide +kernel) (by kernel_rfl)
theorem yH:typeLookup (.type "tuple") "__reversed__" = pure none:=by rw[DA,Ci];kernel_rfl
theorem yI:typeLookup (.type "reversed") "__len__" = pure none:=by rw[DA,Ci];kernel_rfl
theorem ox:typeLookup (.type "reversed") "__length_hint__" = pure (some (.builtin "reversed.__length_hint__")):=by rw[DA,Ci];kernel_rfl
theorem sub_self:isSubtype (.type "reversed") (.type "reversed")=pure true:=by rw[CV];kernel_rfl
theorem uO:isSubtype (.type "tuple") (.type "dict")=pure false:=by rw[CV];kernel_rfl
theorem sv:Slot "reversed" "__init__" "object.__init__" :=
 .of (owner := "object") (n := "__init__") (by rw[DA,Ci];kernel_rfl) (by decide +kernel) (by decide +kernel) (by decide +kernel)
  (by first | exact .inl (by decide +kernel) | exact .inr (by decide +kernel)) (by rw[CV];kernel_rfl)
theorem called:TypeCalled "reversed" "reversed.__new__" "object.__init__" :=
 ⟨by decide +kernel,by decide +kernel,⟨_,_,Ge⟩,madeBy_type Ge PySem.F.lookup_reversed_new (by decide +kernel),by decide +kernel,by rw[CV];kernel_rfl,sv⟩
def rvO (t:Addr)(i:Int):Obj:={ cls :=.type "reversed",data :=.fields #[.ref t,Ex i] }
def fT (h:Heap)(a t:Addr)(i:Int):Prop:=∃o,h.get? a=some o/\o.cls = .type "reversed" /\ o.data = .fields #[.ref t,Ex i]
section
variable  {prog:Au}{w:AV}{A:Bd}{E:z9->Ac->Prop}{s:Ac}
theorem fT.typeIs {a t:Addr}{i:Int}(x:fT s.heap a t i):s.TypeIs (.ref a) "reversed" := let ⟨o,ho,hc,_⟩:=x;⟨o,ho,hc⟩
theorem fT.at {h h':Heap}{a t:Addr}{i:Int}(x:fT h a t i)(e:∀o,h.get? a=some o->h'.get? a=some o):fT h' a t i:=let ⟨o,ho,r⟩:=x;⟨o,e _ ho,r⟩
theorem oy {h h':Heap}{a:Addr}{its:Array z9}(x:IsTup h a its)(e:∀o,h.get? a=some o->h'.get? a=some o):IsTup h' a its:=let ⟨o,ho,r⟩:=x;⟨o,e _ ho,r⟩
theorem sC (t:Addr)(its:Array z9)(hz:(its.size:Int)<2 ^ 63) :
  Meets (Builtin.«reversed.__new__» ⟨[.type "reversed",.ref t],[]⟩) (λ_ R s=>IsTup s.heap t its/\R (.ok (.ret (.ref s.heap.objs.size))) { s with heap:=s.heap.push (rvO t ((its.size:Int)-1)),toks:=s.toks+1+1 }) :=
 .of_wp λprog w A R s h=>by
  obtain ⟨ht,h⟩:=h
  unfold Builtin.«reversed.__new__»
  refine zY (Cd (newClass_reversed _) ?_)
  try dsimp only
  refine zY (Cd (a:=()) (by first | rfl | kernel_rfl) ?_)
  refine zY (Cd (a:=()) (by first | rfl | kernel_rfl) ?_)
  try dsimp only
  refine zY (C9 ht.typeIs yH ?_)
  try dsimp only
  refine zY ?_
  show AA _ _ (isInstance (.ref t) (.type "dict") >>= _) _ _ s
  refine zY (D6 (T := "tuple") (b:=false) ht.typeIs uO ?_)
  refine Ca (λhab=>absurd hab (by decide)) (λ_ =>?_)
  refine zY (C9 ht.typeIs Bj.lookup ?_)
  refine Ca (λ_=>Aa ?_) (λhab=>absurd (by decide +kernel) hab)
  refine Ca (λhab=>absurd hab (by decide)) (λ_ =>?_)
  refine zY (HA ht hz ?_)
  refine zY (Cd (a:=some (its.size:Int)) rfl ?_)
  refine zY ?_
  show AA _ _ (newObj (.type "reversed") (.fields #[.ref t,Ex ((its.size:Int)-1)])) _ _ _
  exact A2 (Aa ⟨_,rfl,h⟩)
theorem uP {t:Addr}{its:Array z9}{Q:z9->Ac->Prop}(ht:IsTup s.heap t its)(hz:(its.size:Int)<2 ^ 63)
  (h:Q (.ref s.heap.objs.size) { s with heap:=s.heap.push (rvO t ((its.size:Int)-1)),toks:=s.toks+1+1 }):AA (AM prog w) A (call (.type "reversed") [.ref t]) Q E s:=by
 refine callType_new called (by decide) (PySem.F.typeCall_reversed_1 _) (PySem.F.newCall_reversed_1 _) (λobj=>E6 obj _) PySem.F.entry_reversed_new (sC t its hz) ⟨ht,?_⟩
 exact ⟨⟨_,Am _ rfl,rfl⟩,h⟩
theorem next_item {I t:Addr}{i:Nat}{its:Array z9}{x:z9}{Q:Option z9->Ac->Prop}(hit:fT s.heap I t (i:Int))(ht:IsTup s.heap t its)(hx:its[i]? = some x)(hi:(i:Int)<2 ^ 63)
  (hQ:∀h' tk,fT h' I t ((i:Int)-1)->Heap.SameBut I s.heap h'->Q (some x) { s with heap:=h',toks:=tk }):AA (AM prog w) A (pyNext (.ref I)) Q E s:=by
 obtain ⟨o,ho,hc,hd⟩:=id hit
 unfold pyNext
 refine zY (DU (CS (name:=Str.ofString "__next__") hit.typeIs slot_next (Cc slot_next hit.typeIs entry_next ?_ (args_next _))))
 unfold Builtin.«reversed.__next__»
 refine zY (Cd (a:=(Ar I,[])) rfl ?_)
 try dsimp only
 refine zY (DF ho hd (x :=.ref t) rfl ?_)
 refine zY (DF ho hd (x:=Ex (i:Int)) rfl ?_)
 show AA _ _ (if (i:Int)<0 then _ else _) _ _ s
 rw[if_neg (by lia)]
 show AA _ _ (specialOf (.ref t) "__getitem__" >>= _) _ _ s
 refine zY (C9 ht.typeIs Bj.lookup ?_)
 refine Ca (λhab=>absurd hab (by decide)) (λ_ =>?_)
 refine zY (HB ?_)
 refine zY (DU ?_)
 refine PyProof.Rows.getItem_tuple (j:=i) ht (by lia) hi (Gs (by lia) (by have:=(B3.mp hx).1;lia)) hx ?_
 refine zY (DF ho hd (x:=Ex (i:Int)) rfl ?_)
 show AA _ _ (setField (.ref I) 1 (Ex ((i:Int)-1)) >>= λ_=>ret x) _ _ _
 refine zY (Gj ho hd (by simp) ?_)
 refine Aa ⟨x,rfl,Aa (hQ _ _ ?_ (Gp ..))⟩
 exact ⟨_,Bg _ ho (F0 (Es hd _)),(Obj.cls_mapFields ..).trans hc,by rw[Es hd];simp⟩
theorem next_end {I t:Addr}{Q:Option z9->Ac->Prop}(hh:A.handled=none)(hit:fT s.heap I t (-1))
  (hQ:∀h',Heap.ExtBut I s.heap h'->Q none { s with heap:=h' }):AA (AM prog w) A (pyNext (.ref I)) Q E s:=by
 obtain ⟨o,ho,hc,hd⟩:=id hit
 unfold pyNext
 refine zY (DU (CS (name:=Str.ofString "__next__") hit.typeIs slot_next (Cc slot_next hit.typeIs entry_next ?_ (args_next _))))
 unfold Builtin.«reversed.__next__»
 refine zY (Cd (a:=(Ar I,[])) rfl ?_)
 try dsimp only
 refine zY (DF ho hd (x :=.ref t) rfl ?_)
 refine zY (DF ho hd (x:=Ex (-1)) rfl ?_)
 show AA _ _ (if (-1:Int)<0 then _ else _) _ _ s
 rw[if_pos (by decide)]
 refine zY (Dh ?_)
 refine zY ?_
 show AA _ _ (setField (.ref I) 1 (Ex (-1)) >>= λ_=>setField (.ref I) 0 .none) _ _ s
 refine zY (Gj ho hd (by simp) ?_)
 have h1:=Bg (Obj.mapFields λfs=>fs.setIfInBounds 1 (Ex (-1))) ho (F0 (Es hd _))
 refine Gj h1 (Es hd _) (by simp) ?_
 refine zY ?_
 show AA _ _ (newExc (.type "StopIteration") [] >>= _) _ _ _
 refine zY ?_
 simp only[newExc,newTuple]
 refine zY (A2 ?_ (by size_fits))
 refine zY (m:=firstArgMember _ _) (Cd (a:=CZ) (by first | rfl | (simp only[firstArgMember];rfl)) ?_)
 refine A2 ?_ (by size_fits)
 simp only[raiseNew]
 refine zY (wpAny_handled ?_)
 first | rw[show A.in1.handled=none from hh] | rw[hh]
 refine zY (Aa (wpAny_throw ?_))
 refine zY (D6 (T := "StopIteration") (b:=true) ⟨_,Am _ rfl,rfl⟩ isSubtype_stop ?_)
 refine Aa (hQ _ ?_)
 refine Hr (Hr (λb o hb eo =>?_) _) _
 exact (AF _ _ (B4 hb)).trans ((AF _ _ (B4 hb)).trans eo)
theorem qH {I t:Addr}{i:Int}{Q:z9->Ac->Prop}(hit:fT s.heap I t i)(h:Q (.ref I) s):AA (AM prog w) A (pyIter (.ref I)) Q E s:=by
 refine Hc hit.typeIs lM (Cc lM hit.typeIs pL ?_ (su _))
 show AA _ _ (ret (.ref I)) _ _ s
 exact Aa ⟨_,rfl, "reversed",_,hit.typeIs,slot_next.lookup,h⟩
theorem lN:Slot "reversed" "__length_hint__" "reversed.__length_hint__" :=
 .of (owner := "reversed") (n := "__length_hint__") ox (by decide +kernel) (by decide +kernel) (by decide +kernel)
  (by first | exact .inl (by decide +kernel) | exact .inr (by decide +kernel)) sub_self
theorem pM:entryFor table "reversed.__length_hint__" = some Builtin.«reversed.__length_hint__» := FH (by kernel_rfl)
theorem sD (a:z9):argsOk "reversed.__length_hint__" ⟨[a],[]⟩:=by
 unfold argsOk;rw[GS (id := "reversed.__length_hint__") (n:=['_', '_', 't', 'n', 'i', 'h', '_', 'h', 't', 'g', 'n', 'e', 'l', '_', '_']) (o:=['d', 'e', 's', 'r', 'e', 'v', 'e', 'r']) (by kernel_rfl) iy];kernel_rfl
theorem sE {I t:Addr}{its:Array z9}{Q:z9->Ac->Prop}(hit:fT s.heap I t ((its.size:Int)-1))(ht:IsTup s.heap t its)(hz:(its.size:Int)<2 ^ 63)
  (h:∀u tk,Q (.int its.size u) { s with toks:=tk }):AA (AM prog w) A (call (.builtin "reversed.__length_hint__") [.ref I]) Q E s:=by
 obtain ⟨o,ho,hc,hd⟩:=id hit
 refine Cc lN hit.typeIs pM ?_ (sD _)
 unfold Builtin.«reversed.__length_hint__»
 refine zY (Cd (a:=Ar I) rfl ?_)
 refine zY (DF ho hd (x :=.ref t) rfl ?_)
 refine Ca (λhab=>absurd hab (show ¬ (false=true) from Ak)) (λ_ =>?_)
 refine zY (HA ht hz ?_)
 refine zY (Cd (a:=some (its.size:Int)) rfl ?_)
 refine zY (DF ho hd (x:=Ex ((its.size:Int)-1)) rfl ?_)
 show AA _ _ (if (its.size:Int)<((its.size:Int)-1)+1 then _ else retInt (((its.size:Int)-1)+1)) _ _ _
 rw[if_neg (by lia),show ((its.size:Int)-1)+1=its.size by lia]
 exact zY (HB (Aa ⟨_,rfl,h _ _⟩))
theorem wM {I t:Addr}{its:Array z9}{Q:Bool->Ac->Prop}(hit:fT s.heap I t ((its.size:Int)-1))(ht:IsTup s.heap t its)(hz:its.size<=2 ^ 24)(h:∀b tk,Q b { s with toks:=tk }):AA (AM prog w) A (Dc (.ref I)) Q E s:=by
 unfold Dc
 refine zY (C9 hit.typeIs yI ?_)
 wp_delta
 refine zY (C9 hit.typeIs ox ?_)
 generalize hid:("reversed.__length_hint__" : String)=id0
 wp_delta
 rw[show splitId id0=some ("reversed", "__length_hint__") from by subst hid;decide +kernel]
 subst hid
 refine zY (D6 (T := "reversed") (b:=true) hit.typeIs sub_self ?_)
 refine Ca (λhab=>absurd hab (by decide)) (λ_ =>?_)
 refine Ca (λhab=>absurd hab (by decide +kernel)) (λ_ =>?_)
 refine zY (Dh ?_)
 refine zY (Cd (lN.bind _) ?_)
 refine zY (DU (sE hit ht (by lia) λu tk =>?_))
 show AA _ A (asInt? (.int (its.size:Int) u) >>= _) Q E _
 have ea:asInt? (Cb (its.size:Int) u)=pure (some (its.size:Int)):=rfl
 rw[ea,pure_bind]
 generalize hn:(its.size:Int)=n
 dsimp only
 refine Ca (λhab=>absurd hab ?_) (λ_ =>?_)
 ·unfold Builtin.List.listFitsIndex;simp;lia
 refine Ca (λhab=>absurd hab (by lia)) (λ_ =>?_)
 refine Ca (λhab=>absurd hab ?_) (λ_ =>?_)
 ·rw[L2.jE (by rw[Dq];lia)];exact Ak
 exact Aa (h _ _)
end
theorem walk {prog:Au}{w:AV}{A:Bd}(hh:A.handled=none)(I t:Addr)(hne:t≠I)(its:Array z9)(hz:(its.size:Int)<2 ^ 63) :
  Walks prog w A I [I,t] [I] its.size (λi v=>its[its.size-1-i]? = some v) (λi h=>i<=its.size/\fT h I t ((its.size:Int)-1-(i:Int))/\IsTup h t its) where
 sub:=λb hb=>by simp at hb;simp[hb]
 frame:=λ_ _ _ x hk=>⟨x.1,x.2.1.at λo e=>hk I (by simp) o e,oy x.2.2 λo e=>hk t (by simp) o e⟩
 item:=λi s Q E hi x hQ=>by
  have e:(its.size:Int)-1-(i:Int)=((its.size-1-i:Nat):Int):=by omega
  have hit:=x.2.1
  rw[e] at hit
  have hx:its[its.size-1-i]? = some (its[its.size-1-i]'(by omega)):=AG (by omega)
  refine next_item hit x.2.2 hx (by omega) λh' tk hit' hs' =>?_
  have e2:((its.size-1-i:Nat):Int)-1=(its.size:Int)-1-((i+1:Nat):Int):=by omega
  rw[e2] at hit'
  exact hQ _ h' tk hx ⟨hi,hit',oy x.2.2 λo eo=>(hs'.2 t hne).trans eo⟩ λb o hb eo=>hs'.extBut b o (λh=>hb (by simp[h])) eo
 done:=λs Q E x hQ=>by
  have e:(its.size:Int)-1-(its.size:Int) = -1:=by omega
  have hit:=x.2.1
  rw[e] at hit
  exact next_end hh hit λh' he'=>hQ h' s.toks λb o hb eo=>he' b o (λh=>hb (by simp[h])) eo
 self:=λ_ _ _ _ x hQ=>qH x.2.1 hQ
section
variable  {prog:Au}{w:AV}{A:Bd}{E:z9->Ac->Prop}{s:Ac}
theorem sF {R:Result->Ac->Prop}{I t:Addr}{items:Array z9}(hh:A.handled=none)(hit:fT s.heap I t ((items.size:Int)-1))(hl:IsTup s.heap t items)(hne:t≠I)(hlen:items.size<=2 ^ 24)
  (S:Addr) (hSI:S≠I) (hSl:S≠t) (res:z9) (c₀:Nat) (hS:s.heap.get? S=some { cls :=.type "list",data :=.seq #[] c₀ })
  (hR:∀h' tk acc' c',(∀b o,b≠S->b≠I->s.heap.get? b=some o->h'.get? b=some o)->h'.get? S=some { cls :=.type "list",dict:=none,data :=.seq acc' c',slots := #[] } →
   ItemsOf (λi v=>items[items.size-1-i]? = some v) acc' items.size->R (.ok (.ret res)) { s with heap:=h',toks:=tk }) :
  AA (AM prog w) A.in1 (BF (.ref S) (.ref I) res)
   (λfin s'=>match fin with | .done f=>R (.ok f) s' | .again c'=>c'.quiet=true/\Ew (AM prog w) A c' R s') (λe s'=>R (.error e) s') s:=by
 have hSf:S∉[I,t]:=λhm=>by
  rcases AJ.mp hm with e | hm
  ·exact hSI e
  ·exact hSl (Ah.mp hm)
 have W:=(walk (prog:=prog) (w:=w) (A:=A.in1) hh I t hne items (by omega)).toS
 unfold BF
 refine zY (Dm (T := "reversed") hit.typeIs ?_)
 have h1:DB (.ref S) (.ref I)=false:=by simp[DB,hSI]
 have h2:(CI "reversed" == CI "list")=false:=by decide +kernel
 have h3:(CI "reversed" == CI "tuple")=false:=by decide +kernel
 simp only[h1,h2,h3,HV,Ay,if_false]
 refine zY (qH hit ?_)
 refine zY (Bw (wM hit hl hlen λb tk =>?_))
 refine Ca (λ_ =>?_) (λ_=>Aa ⟨BB Fh _,?_⟩)
 ·refine zY (Dh ?_)
  refine zY ?_
  show AA _ A.in1 (updateSeq S (·.push .none) >>= λ_=>updateSeq S (·.pop)) _ _ _
  refine zY (B9 hS rfl ?_)
  have hS₂:=Bg (Cr (·.push CZ)) hS rfl
  refine B9 (hz:=by seq_fits) hS₂ rfl ?_
  have hS₃:=Bg (Cr (·.pop)) hS₂ rfl
  have oth:∀b o,b≠S->s.heap.get? b=some o->((s.heap.update S (Cr (·.push CZ))).update S (Cr (·.pop))).get? b=some o :=
   λb o hb e=>(AF _ _ (B4 hb)).trans ((AF _ _ (B4 hb)).trans e)
  refine Aa ⟨BB Fh _,Gh W (by rw[Dq];omega) S hSf res items.size 0 _ _ _ rfl (A7 _) ⟨A7 _,by simpa using hit.at λo e=>oth I o (B4 hSI) e,oy hl λo e=>oth t o (B4 hSl) e⟩ hS₃ (Ii _) λs' acc' c' hm hS' hacc =>?_⟩
  rw[HX hm]
  refine hR s'.heap s'.toks acc' c' (λb o hb hbI e=>hm.heap b o (λhmem =>?_) (oth b o hb e)) hS' hacc
  rcases AJ.mp hmem with e' | hmem
  ·exact hb e'
  ·exact hbI (Ah.mp hmem)
 refine Gh W (by rw[Dq];omega) S hSf res items.size 0 _ #[] c₀ rfl (A7 _) ⟨A7 _,by simpa using hit,hl⟩ hS (Ii _) λs' acc' c' hm hS' hacc =>?_
 rw[HX hm]
 refine hR s'.heap s'.toks acc' c' (λb o hb hbI e=>hm.heap b o (λhmem =>?_) e) hS' hacc
 rcases AJ.mp hmem with e' | hmem
 ·exact hb e'
 ·exact hbI (Ah.mp hmem)
theorem pN {R:List z9->Ac->Prop}{I t:Addr}{items:Array z9}(hh:A.handled=none)(hit:fT s.heap I t ((items.size:Int)-1))(hl:IsTup s.heap t items)(hne:t≠I)(hlen:items.size<=2 ^ 24)
    (h:∀(h1:Heap) (tk:Nat) (vs:List z9),vs=items.toList.reverse->(∀b o,b≠I->s.heap.get? b=some o->h1.get? b=some o)->R vs { s with heap:=h1,toks:=tk }) :
    AA (AM prog w) A (collect (.ref I)) R E s:=by
  obtain ⟨oi,hoi,_⟩:=id hit
  obtain ⟨ol,hol,_⟩:=id hl
  unfold collect
  refine zY (EE (Bi PySem.F.entry_proto_collect ?_))
  rw[Ba PySem.F.plain_proto_collect _]
  show AA _ A.in1 (newList [] >>= λl=>again (.builtin "list.__iadd__" ⟨[l,.ref I],[]⟩)) _ _ s
  refine zY (A2 ?_)
  refine Aa ⟨BB FA _,Bi PySem.F.entry_list_iadd ?_⟩
  rw[Ba FA _]
  show AA _ A.in1 (BF (.ref s.heap.objs.size) (.ref I) (.ref s.heap.objs.size)) _ _ { s with heap:=s.heap.push { cls :=.type "list",data :=.seq ([]:List z9).toArray } }
  have hS0:(s.heap.push { cls :=.type "list",data :=.seq ([]:List z9).toArray }).get? s.heap.objs.size=some { cls :=.type "list",data :=.seq #[] 0 }:=Am _ rfl
  refine sF (A:=A) (R:=λres s'=>match res with
      | .ok (.ret v)=>AA (AM prog w) A (match v with | .ref a=>(do match (← load a).data with | .seq xs _=>pure xs.toList | _=>unsupported "internal:collect") | _=>unsupported "internal:collect") R E s'
      | .ok _=>False
      | .error e=>E e s') (s:={ s with heap:=s.heap.push { cls :=.type "list",data :=.seq ([]:List z9).toArray } }) hh (hit.at λo e=>zZ _ e) (oy hl λo e=>zZ _ e) hne hlen s.heap.objs.size (B4 (AD (An hoi))) (B4 (AD (An hol))) (.ref s.heap.objs.size) 0 hS0 λh' tk acc' c' kk hS' it =>?_
  show AA _ A (load s.heap.objs.size >>= _) _ _ { s with heap:=h',toks:=tk }
  refine zY (G9 hS' ?_)
  refine Aa (h h' tk acc'.toList ?_ λb o hb e=>kk b o (AD (An e)) hb (zZ _ e))
  refine EA λj =>?_
  rw[Ap]
  have h1:acc'.size=items.toList.length:=it.1
  by_cases hj:j<items.toList.length
  · obtain ⟨v,hv⟩:∃v,acc'[j]? = some v:=⟨acc'[j]'(by lia),AG _⟩
    have:=it.2 j v hv
    dsimp only at this
    rw[<- Ap] at this
    rw[hv,List.getElem?_reverse hj, <- this]
    rfl
  · rw[De (by lia),Bx (by rw[C7];lia)]
theorem iW (I t:Addr)(items:Array z9)(hne:t≠I)(hn:items.size<=1000) :
  Meets (Builtin.«tuple.__new__» ⟨[.type "tuple",.ref I],[]⟩)
   (λA R s=>A.handled=none/\fT s.heap I t ((items.size:Int)-1)/\IsTup s.heap t items/\∀(h':Heap) (tk:Nat),(∀b o',b≠I->s.heap.get? b=some o'->h'.get? b=some o')->R (.ok (.ret (.ref h'.objs.size))) { s with heap:=h'.push { cls :=.type "tuple",data :=.seq items.toList.reverse.toArray },toks:=tk }) :=
 .of_wp λprog w A R s h=>by
  obtain ⟨hp,g,d,tk,os⟩:=s;obtain ⟨hh,hr,ht,h⟩:=h
  have hsub:=sub_tuple_self
  have hinit:=init_tuple_lookup
  have hmh:=madeHere_tuple
  have hT:Shared.TypeIs ⟨hp,g,d,tk,os⟩ (.ref I) "reversed" := fT.typeIs (s:=⟨hp,g,d,tk,os⟩) hr
  wp_walk using Dm hT,pN (by simpa using hh) hr ht hne (by lia)
  rintro h' tk' vs rfl hk
  show AA _ _ (Builtin.Tuple.tupleExact items.toList.reverse.toArray >>= λv=>ret v) _ _ _
  unfold Builtin.Tuple.tupleExact
  refine zY (A2 ?_ (by show items.toList.reverse.toArray.size<=Ao;rw[Ad,C7,Ai];exact small hn))
  exact Aa ⟨_,rfl,h h' tk' hk⟩
end
end L2.RvT
namespace L2
open PySem PySem.Spec PyProof.Rows
section
variable  {X:Cx}
theorem sH:Bz "tuple" = some (.type "tuple"):=by decide +kernel
def wN (K:z8)(te:TE):TE:=λσ H Q=>te σ H λx H1=>∃l xs,x = .ref l/\SqT K H1 l xs/\xs.length<=1000/\∀p,H1 p=none->Q (.ref p) (upd H1 p (.tup xs.reverse))
theorem sI {e:Expr}{te:TE}{p1 p2 pos1 pos2:Pos}(hh:X.A.handled=none)(hg1:Gl X "tuple")(hm1:X.mg "tuple" = none)(hg2:Gl X "reversed")(hm2:X.mg "reversed" = none)(he:PE X e te)
  (hs1:Bt [Expr.Call (.Name "reversed" p2) [e] [] pos2] X.env=(false,eval (.Call (.Name "reversed" p2) [e] [] pos2) X.env) :: Bt [] X.env:=by rfl) (hp1:(Ez pos1 (Bt [] X.env)).any (·.1)=false:=by rfl)
  (hs2:Bt [e] X.env=(false,eval e X.env) :: Bt [] X.env:=by rfl) (hp2:(Ez pos2 (Bt [] X.env)).any (·.1)=false:=by rfl) :
  PE X (.Call (.Name "tuple" p1) [.Call (.Name "reversed" p2) [e] [] pos2] [] pos1) (wN X.K te):=by
 intro pins s σ H Q I h
 refine Dl (eF I hg1 hm1 sH ?_ (by decide) (by decide))
 refine C1 ?_ hs1 hp1
 rw[hs1]
 show AA _ _ (spliced ((false,eval (.Call (.Name "reversed" p2) [e] [] pos2) X.env) :: Ez pos1 (Bt [] X.env))) _ _ s
 refine GA ?_
 refine Dl (eF I hg2 hm2 ou ?_ (by decide) (by decide))
 refine C1 (thn ((aa he af hs2) pos2 pins s σ H (λvs H1=>match vs with | [x]=>∃l xs,x = .ref l/\SqT X.K H1 l xs/\xs.length<=1000/\∀p,H1 p=none->Q (.ref p) (upd H1 p (.tup xs.reverse)) | _=>False) I ?_) λus s1 ⟨vs,H1,I1,r1,q1⟩ =>?_) hs2 hp2
 ·exact h
 ·match vs,q1 with
  | [x],q1 =>
  obtain ⟨t,xs,rfl,hx,h1000,q⟩:=q1
  obtain ⟨u,rfl,ru⟩:=vals1 r1
  cases (show u=Ar t from ru)
  obtain ⟨its,r,ht,hz⟩:=I1.tuple hx
  have ll:=r.length
  have lz:its.toArray.size=xs.length:=by rw[Ad];exact ll.symm
  refine RvT.uP ht (by rw[lz];omega) ?_
  refine GZ ?_
  obtain ⟨ot,hot,_⟩:=id ht
  refine callType_new PySem.F.called_tuple (by decide) (PySem.F.typeCall_tuple_1 _) (PySem.F.newCall_tuple_1 _) (λobj=>E6 obj _) PySem.F.entry_tuple_new
   (RvT.iW s1.heap.objs.size t its.toArray (AD (An hot)) (by rw[lz];exact h1000)) ⟨by simpa using hh,⟨_,Am _ rfl,rfl,rfl⟩,RvT.oy ht (λo e=>zZ _ e),λh' tk k=>⟨⟨_,Am _ rfl,rfl⟩,?_⟩⟩
  have I2:Inv X pins σ H1 { s1 with heap:=h',toks:=tk }:=I1.kept λb o e=>k b o (AD (An e)) (zZ _ e)
  exact ⟨.ref h'.objs.size,_,I2.laid (o :=.tup xs.reverse) (λb ob q=>zZ _ q) (Ag _) ⟨by rw[C7];exact small h1000,its.reverse,ow r,di.new _ _⟩,rfl,q _ (I2.hok.fresh (Ag _))⟩
theorem yJ {k:Nat}(hr:cg k X.A):OpR X (BQ .Eq) (λx y H Q=>∃a b xs ys,x = .ref a/\y = .ref b/\SqL X.K H a xs/\SqL X.K H b ys/\((xs.length≠ys.length/\Q (.bl false) H)\/(Paired (gj X.K H 20) xs ys/\Q (.bl true) H))):=by
 intro pins s σ H x y v u Q I rx ry h
 obtain ⟨a,b,xs,ys,rfl,rfl,h1,h2,h3⟩:=h
 rcases h3 with ⟨ne,q⟩ | ⟨p,q⟩
 ·cases (show v=Ar a from rx)
  cases (show u=Ar b from ry)
  obtain ⟨its,r1,⟨⟨c1,d1,da1,sl1⟩,n1,e1,k1,_,k3⟩,_⟩:=I.list h1
  obtain ⟨its2,r2,⟨⟨c2,d2,da2,sl2⟩,n2,e2,g1,_,g3⟩,_⟩:=I.list h2
  simp only at k1 k3 g1 g3
  subst k1 k3 g1 g3
  have l1:=r1.length
  have l2:=r2.length
  have hu:=hr.un
  have hu1:X.A.units<cLine:=by lia
  refine FO (op :=.Eq) ⟨_,e1,rfl⟩ ⟨_,e2,rfl⟩ F.slot_list_eq F.entry_list_eq (F.args_list_eq_2 _ _) (SeqAt.list_eq_lengthsAt a b its.toArray its2.toArray n1 n2 d1 d2 sl1 sl2 (by simp;lia)) ⟨e1,e2,?_⟩ hu1
  exact ⟨(λz=>nomatch z),⟨.bl false,H,I,rfl,q⟩⟩
 ·exact wJ hr pins s σ H _ _ v u Q I rx ry ⟨a,b,xs,ys,rfl,rfl,h1,h2,p,q⟩
theorem i7:SlR X (λx lo hi H Q=>∃a xs,x = .ref a/\H a=some (.tup xs)/\∀p2 H2,aA H H2->H2 p2=some (.tup (dz xs lo hi))->Q (.ref p2) H2):=by
 intro pins s σ H x v vl vu lo hi sl Q I rx hs pl pu h
 obtain ⟨a,xs,rfl,ep,key⟩:=h
 refine wu pins s σ H _ v vl vu lo hi sl Q I rx hs pl pu ⟨a,xs,rfl,SqT.of ep,λz=>key a H (aA.refl _) ?_,λ_ p2 hp2=>key p2 _ (ai hp2 _) ah⟩
 unfold dz
 rw[z.1,z.2,ED,FV,Cs]
 exact ep
theorem oz:OpR X (binaryOp .Add) (λx y H Q=>∃a b xs ys,x = .ref a/\y = .ref b/\H a=some (.tup xs)/\H b=some (.tup ys)/\xs.length+ys.length<=Ao/\∀p H',aA H H'->H' p=some (.tup (xs++ys))->Q (.ref p) H'):=by
 intro pins s σ H x y v u Q I rx ry h
 obtain ⟨a,b,xs,ys,rfl,rfl,ha,hb,hz,q⟩:=h
 exact uN pins s σ H _ _ v u Q I rx ry (qG.one ha hb hz q)
end
end L2
namespace L2.MnT
open PySem PyProof.Rows
section
variable  {prog:Au}{w:AV}{A:Bd}{E:z9->Ac->Prop}{I:Addr}{fp wr:List Addr}{n:Nat}{P:Nat->z9->Prop}{St:Nat->Heap->Prop}
def Cmp (prog:Au)(w:AV)(A:Bd)(P:Nat->z9->Prop)(St:Nat->Heap->Prop)(bt:Nat->Nat->Bool):Prop :=
 ∀k i j x y (s:Ac) (Q E:z9->Ac->Prop),St k s.heap->P i x->P j y->Q (.bool (bt i j)) s->AA (AM prog w) A (richCompare .Lt x y) Q E s
abbrev Bag (S:Addr)(xs:Array z9)(c:Nat)(h:Heap):Prop:=h.get? S=some { cls :=.type "list",dict:=none,data :=.seq xs c,slots := #[] }
abbrev Kept (wr:List Addr)(S:Addr)(h h':Heap):Prop:=∀b o,b∉wr->b≠S->h.get? b=some o->h'.get? b=some o
theorem loop {R:Result->Ac->Prop}(W:Walks prog w A.in1 I fp wr n P St){bt:Nat->Nat->Bool}(C:Cmp prog w A.in1 P St bt){S:Addr}(nS:S∉fp):∀(d j:Nat) (s:Ac) (best:z9) (c:Nat),n=j+1+d->St (j+1) s.heap->P (argBest bt j) best->Bag S #[best,best] c s.heap →
  (∀v h' tk,P (argBest bt (n-1)) v->Kept wr S s.heap h'->R (.ok (.ret v)) { s with heap:=h',toks:=tk })->Ew (AM prog w) A (.builtin "min.loop" ⟨[.ref I,.none,.ref S],[]⟩) R s:=by
 have nw:S∉wr:=λh=>nS (W.sub _ h)
 have nm:(toString "min" ++ toString ".loop" : String) = "min.loop" := by decide
 intro d
 induction d with
 | zero =>
  intro j s best c hn st pb bg hR
  have e:j+1=n:=by lia
  rw[e] at st
  refine Bi Cu ?_
  rw[Ba AZ _]
  show AA _ _ (seqItems? (.ref S) >>= _) _ _ s
  refine zY (Dr bg rfl ?_)
  show AA _ _ (tryCatch (pyNext (.ref I)) _ >>= _) _ _ s
  refine zY (Cj (W.done s _ _ st λh1 tk kp =>?_))
  show AA _ _ (updateSeq S (λ_ => #[]) >>= _) _ _ _
  refine zY ?_
  refine B9 (kp S _ nw bg) rfl (zY (Eb (Aa (hR best _ tk (by rw[<- e];exact pb) ?_))))
  exact λb o nb ns eb=>(AF _ _ (B4 ns)).trans (kp b o nb eb)
 | succ d ih =>
  intro j s best c hn st pb bg hR
  refine Bi Cu ?_
  rw[Ba AZ _]
  show AA _ _ (seqItems? (.ref S) >>= _) _ _ s
  refine zY (Dr bg rfl ?_)
  show AA _ _ (tryCatch (pyNext (.ref I)) _ >>= _) _ _ s
  refine zY (Cj (W.item (j+1) s _ _ (by lia) st λv h1 tk pv st1 kp =>?_))
  have bg1:=kp S _ nw bg
  show AA _ _ (tryCatch (EM [v,v] (richCompare .Lt v best >>= _)) _ >>= _) _ _ _
  refine zY (Cj (Bw (zY (C (j+1+1) (j+1) (argBest bt j) v best _ _ _ st1 pv pb ?_))))
  refine zY (Bw (B1 ?_))
  refine zY (Eb (Aa ?_))
  by_cases hb:bt (j+1) (argBest bt j)=true
  ·have ea:argBest bt (j+1)=j+1:=by simp only[argBest,hb,if_true]
   rw[hb]
   simp only[if_true]
   refine zY ?_
   refine B9 bg1 rfl (zY (Eb ?_))
   rw[nm]
   refine Aa ⟨BB AZ _,ih (j+1) _ v _ (by lia) (W.frame _ _ _ st1 λb fb o eb =>?_) (by rw[ea];exact pv) (Bg _ bg1 rfl) λv2 h2 tk2 p2 k2=>hR v2 h2 tk2 p2 λb o nb ns eb=>k2 b o nb ns ?_⟩
   ·exact (AF _ _ (λz:S=b=>nS (z ▸ fb))).trans eb
   ·exact (AF _ _ (B4 ns)).trans (kp b o nb eb)
  ·have ea:argBest bt (j+1)=argBest bt j:=by simp only[argBest,hb];rfl
   rw[DT.mpr hb]
   simp only[Ay,if_false]
   refine zY (Eb ?_)
   rw[nm]
   exact Aa ⟨BB AZ _,ih (j+1) _ best c (by lia) st1 (by rw[ea];exact pb) bg1 λv2 h2 tk2 p2 k2=>hR v2 h2 tk2 p2 λb o nb ns eb=>k2 b o nb ns (kp b o nb eb)⟩
theorem first {R:Result->Ac->Prop}(W:Walks prog w A.in1 I fp wr n P St){bt:Nat->Nat->Bool}(C:Cmp prog w A.in1 P St bt){S:Addr}(nS:S∉fp)(hn:0<n){s:Ac}{c:Nat}(st:St 0 s.heap)(bg:Bag S #[] c s.heap)
  (hR:∀v h' tk,P (argBest bt (n-1)) v->Kept wr S s.heap h'->R (.ok (.ret v)) { s with heap:=h',toks:=tk }):Ew (AM prog w) A (.builtin "min.loop" ⟨[.ref I,.none,.ref S],[]⟩) R s:=by
 have nw:S∉wr:=λh=>nS (W.sub _ h)
 have nm:(toString "min" ++ toString ".loop" : String) = "min.loop" := by decide
 refine Bi Cu ?_
 rw[Ba AZ _]
 show AA _ _ (seqItems? (.ref S) >>= _) _ _ s
 refine zY (Dr bg rfl ?_)
 show AA _ _ (tryCatch (pyNext (.ref I)) _ >>= _) _ _ s
 refine zY (Cj (W.item 0 s _ _ hn st λv h1 tk pv st1 kp =>?_))
 have bg1:=kp S _ nw bg
 show AA _ _ (updateSeq S (λ_ => #[v,v]) >>= _) _ _ _
 refine zY ?_
 refine B9 bg1 rfl ?_
 rw[nm]
 refine Aa ⟨BB AZ _,loop W C nS (n-1) 0 _ v _ (by lia) (W.frame _ _ _ st1 λb fb o eb =>?_) pv (Bg _ bg1 rfl) λv2 h2 tk2 p2 k2=>hR v2 h2 tk2 p2 λb o nb ns eb=>k2 b o nb ns ?_⟩
 ·exact (AF _ _ (λz:S=b=>nS (z ▸ fb))).trans eb
 ·exact (AF _ _ (B4 ns)).trans (kp b o nb eb)
def Goes (prog:Au)(w:AV)(A:Bd)(Q:z9->Ac->Prop)(it:z9)(s:Ac):Prop:=∃I fp wr n P St bt,it = .ref I/\Walks prog w A.in1 I fp wr n P St/\St 0 s.heap/\(∀b∈fp,b<s.heap.objs.size)/\0<n/\Cmp prog w A.in1 P St bt ∧
 ∀v h' tk,P (argBest bt (n-1)) v->(∀b o,b∉wr->s.heap.get? b=some o->h'.get? b=some o)->Q v { s with heap:=h',toks:=tk }
theorem zJ {s:Ac}{x:z9}{Q:z9->Ac->Prop}(h:AA (AM prog w) A.in1 (pyIter x) (Goes prog w A Q) E s):AA (AM prog w) A (call (.builtin "min") [x]) Q E s:=by
 have nm:(toString "min" ++ toString ".loop" : String) = "min.loop" := by decide
 refine GU FE Fs Ft (PySem.F.args_min1 _) ?_
 show AA _ _ (Builtin.Builtins.bindParams "min" ["key", "default"] 0 ⟨[],[]⟩ >>= _) _ _ s
 refine zY (Cd (a:=[none,none]) rfl ?_)
 refine zY (Aa ?_)
 refine zY (Cz h (λit s2 g =>?_) λ_ _ e=>e)
 obtain ⟨I,fp,wr,n,P,St,bt,rfl,W,st,hf,hn,C,hq⟩:=g
 refine zY (A2 ?_)
 rw[nm]
 refine Aa ⟨BB AZ _,first W C (S:=s2.heap.objs.size) (λhm=>A5 _ (hf _ hm)) hn (W.frame _ _ _ st λb _ o e=>zZ _ e) (Am _ rfl) λv h' tk pv kp =>?_⟩
 exact hq v h' tk pv λb o nb e=>kp b o nb (AD (An e)) (zZ _ e)
theorem call2 {s:Ac}{a b:z9}{Q:z9->Ac->Prop}(h:AA (AM prog w) A.in1 (pyIter (.ref s.heap.objs.size)) (Goes prog w A Q) E { s with heap:=s.heap.push { cls :=.type "tuple",data :=.seq #[a,b] } }):AA (AM prog w) A (call (.builtin "min") [a,b]) Q E s:=by
 have nm:(toString "min" ++ toString ".loop" : String) = "min.loop" := by decide
 refine GU FE Fs Ft (PySem.F.args_min2 _ _) ?_
 show AA _ _ (Builtin.Builtins.bindParams "min" ["key", "default"] 0 ⟨[],[]⟩ >>= _) _ _ s
 refine zY (Cd (a:=[none,none]) rfl ?_)
 show AA _ _ (newTuple [a,b] >>= _) _ _ s
 refine zY (A2 ?_)
 refine zY (Cz h (λit s2 g =>?_) λ_ _ e=>e)
 obtain ⟨I,fp,wr,n,P,St,bt,rfl,W,st,hf,hn,C,hq⟩:=g
 refine zY (A2 ?_)
 rw[nm]
 refine Aa ⟨BB AZ _,first W C (S:=s2.heap.objs.size) (λhm=>A5 _ (hf _ hm)) hn (W.frame _ _ _ st λb _ o e=>zZ _ e) (Am _ rfl) λv h' tk pv kp =>?_⟩
 exact hq v h' tk pv λb o nb e=>kp b o nb (AD (An e)) (zZ _ e)
def TI (h:Heap)(t:Addr×List Int):Prop:=∃its:Array z9,IsTup h t.1 its/\CA its.toList t.2
theorem TI.at {h h':Heap}{t:Addr×List Int}(x:TI h t)(e:∀o,h.get? t.1=some o->h'.get? t.1=some o):TI h' t:=let ⟨its,⟨o,ho,r⟩,y⟩:=x;⟨its,⟨o,e o ho,r⟩,y⟩
theorem more (W:Walks prog w A I fp wr n P St)(ts:List (Addr×List Int))(nw:∀t∈ts,t.1∉wr):Walks prog w A I (fp++ts.map (·.1)) wr n P (λi h=>St i h/\∀t∈ts,TI h t) where
 sub:=λb hb=>As.mpr (.inl (W.sub b hb))
 frame:=λi h h' x hk=>⟨W.frame i h h' x.1 λb hb o e=>hk b (As.mpr (.inl hb)) o e,λt ht=>(x.2 t ht).at (hk t.1 (As.mpr (.inr (C8 (f:=(·.1)) ht))))⟩
 item:=λi s Q E hi x hQ=>W.item i s Q E hi x.1 λv h' tk pv st' kp=>hQ v h' tk pv ⟨st',λt ht=>(x.2 t ht).at λo=>kp t.1 o (nw t ht)⟩ kp
 done:=λs Q E x hQ=>W.done s Q E x.1 hQ
 self:=λi s Q E x hQ=>W.self i s Q E x.1 hQ
theorem cmp (ts:List (Addr×List Int))(hu:A.units<cLine)(hP:∀i v,P i v->∃t,ts[i]? = some t/\v = .ref t.1):Cmp prog w A P (λi h=>St i h/\∀t∈ts,TI h t) (λi j=>HT.lexLt (ts.getD i (0,[])).2 (ts.getD j (0,[])).2):=by
 intro k i j x y s Q E st hx hy h
 obtain ⟨t,et,rfl⟩:=hP i x hx
 obtain ⟨u,eu,rfl⟩:=hP j y hy
 obtain ⟨i1,p1,a1⟩:=st.2 t (Aj et)
 obtain ⟨i2,p2,a2⟩:=st.2 u (Aj eu)
 dsimp only at h
 rw[Aq,Aq,et,eu] at h
 exact HT.oZ p1 p2 a1 a2 hu h
theorem best (g:Nat->List Int):∀k,(argBest (λi j=>HT.lexLt (g i) (g j)) k<=k)/\∀j,j<=k->HT.lexLt (g j) (g (argBest (λi j=>HT.lexLt (g i) (g j)) k))=false
 | 0=>⟨Ag _,λj hj=>by rw[Hy.mp hj];exact Srt.lex_irrefl _⟩
 | k+1=>by
  obtain ⟨l,ih⟩:=best g k
  by_cases hb:HT.lexLt (g (k+1)) (g (argBest (λi j=>HT.lexLt (g i) (g j)) k))=true
  ·have ea:argBest (λi j=>HT.lexLt (g i) (g j)) (k+1)=k+1:=by simp only[argBest,hb,if_true]
   rw[ea]
   refine ⟨Ag _,λj hj =>?_⟩
   by_cases e:j=k+1
   ·rw[e];exact Srt.lex_irrefl _
   ·refine DT.mpr λz =>?_
    have:=ih j (by lia)
    rw[Srt.lex_trans _ _ _ z hb] at this
    cases this
  ·have ea:argBest (λi j=>HT.lexLt (g i) (g j)) (k+1)=argBest (λi j=>HT.lexLt (g i) (g j)) k:=by simp only[argBest,hb];rfl
   rw[ea]
   refine ⟨by lia,λj hj =>?_⟩
   by_cases e:j=k+1
   ·rw[e];exact DT.mpr hb
   ·exact ih j (by lia)
end
end L2.MnT
namespace L2
open PySem PySem.Spec PyProof.Rows
section
variable  {X:Cx}
theorem yK (hc:X.calm=true)(hu:X.A.units+8<cLine):bM X (.builtin "min") (λxs H Q=>∃(p:Addr) (ts:List (Addr×List Int)),xs=[.ref p]/\SqL X.K H p (ts.map λt =>.ref t.1)/\(∀t∈ts,SqT X.K H t.1 (t.2.map V.int))/\ts≠[]/\∀t∈ts,(∀u∈ts,HT.lexLt u.2 t.2=false)->Q (.ref t.1) H):=by
 intro pins s σ H xs us Q I r h
 obtain ⟨p,ts,rfl,hS,hT,hne,q⟩:=h
 obtain ⟨u,rfl,ru⟩:=vals1 r
 cases (show u=Ar p from ru)
 obtain ⟨its,r1,p1,_⟩:=I.list hS
 have hl:s.heap.IsList p its.toArray:=p1.isList
 have ll:=r1.length
 rw[z4] at ll
 have hp:0<ts.length:=Cy.mpr hne
 have TIs:∀t∈ts,MnT.TI s.heap t:=λt ht=>by
  obtain ⟨i2,r2,p2,_⟩:=I.tuple (hT t ht)
  exact ⟨_,p2,intsAre_of r2⟩
 have hlt:∀t∈ts,t.1<s.heap.objs.size:=λt ht=>by
  obtain ⟨_,⟨o,ho,_⟩,_⟩:=TIs t ht
  exact An ho
 have hpl:p<s.heap.objs.size:=by obtain ⟨_,e,_⟩:=hl;exact An e
 have at_:∀(i:Nat) (v:z9),its.toArray[i]? = some v->∃t:Addr×List Int,ts[i]? = some t/\v=Ar t.1:=λi v hv=>by
  rw[BI] at hv
  have hi:i<ts.length:=by rw[ll];exact (Af.mp hv).1
  have e1:(ts.map λt=>V.ref t.1)[i]? = some (.ref ts[i].1):=by rw[Aw,Ab hi];rfl
  obtain ⟨w',ew,rw'⟩:=r1.get e1
  rw[ew] at hv
  exact ⟨ts[i],Ab hi,(AI hv).symm.trans rw'⟩
 refine MnT.zJ (Dz hl ?_)
 refine ⟨s.heap.objs.size,_,_,its.toArray.size,_,_,_,rfl,MnT.more (G0 (A:=X.A.in1) (I.ok.hd hc) s.heap.objs.size p (AD hpl) its.toArray) ts (λt ht hm =>?_),⟨⟨⟨_,Am _ rfl,rfl,rfl⟩,hl.push _⟩,λt ht=>(TIs t ht).at λo e=>zZ _ e⟩,λb hb =>?_,by rw[Ad];lia,MnT.cmp ts ?_ at_,λv h' tk pv kp =>?_⟩
 ·have:=hlt t ht
  rw[Ah.mp hm] at this
  exact A5 _ this
 ·show b<(s.heap.push _).objs.size
  rw[B7]
  rcases As.mp hb with hb | hb
  ·rcases AJ.mp hb with rfl | hb
   ·exact BK _
   ·rw[Ah.mp hb];exact Bo hpl
  ·obtain ⟨t,ht,rfl⟩:=Bc.mp hb
   exact Bo (hlt t ht)
 ·show X.A.units+_<cLine
  lia
 ·obtain ⟨t,et,rfl⟩:=at_ _ v pv
  obtain ⟨b1,b2⟩:=MnT.best (λi=>(ts.getD i (0,[])).2) (its.toArray.size-1)
  have kept:∀b o,s.heap.get? b=some o->h'.get? b=some o:=λb o e=>kp b o (λhm=>by
   have:=An e
   rw[Ah.mp hm] at this
   exact A5 _ this) (zZ _ e)
  refine ⟨.ref t.1,H,I.kept kept,rfl,q t (Aj et) λu hu' =>?_⟩
  obtain ⟨j,hj,eu⟩:=D9 hu'
  have:=b2 j (by rw[Ad];lia)
  rw[Aq,Aq,et,Ab hj,eu] at this
  exact this
theorem pO (hc:X.calm=true)(hu:X.A.units+8<cLine):bM X (.builtin "min") (λxs H Q=>∃(a b:Addr) (ns ms:List Int),xs=[.ref a,.ref b]/\SqT X.K H a (ns.map V.int)/\SqT X.K H b (ms.map V.int)/\(HT.lexLt ms ns=true->Q (.ref b) H)/\(HT.lexLt ms ns=false->Q (.ref a) H)):=by
 intro pins s σ H xs us Q I r h
 obtain ⟨a,b,ns,ms,rfl,ha,hb,q1,q2⟩:=h
 obtain ⟨u,v,rfl,ru,rv⟩:=vals2 r
 cases (show u=Ar a from ru)
 cases (show v=Ar b from rv)
 have TIs:∀t∈[(a,ns),(b,ms)],MnT.TI s.heap t:=λt ht=>by
  rcases AJ.mp ht with rfl | ht
  ·obtain ⟨i2,r2,p2,_⟩:=I.tuple ha
   exact ⟨_,p2,intsAre_of r2⟩
  ·rw[Ah.mp ht]
   obtain ⟨i2,r2,p2,_⟩:=I.tuple hb
   exact ⟨_,p2,intsAre_of r2⟩
 have hlt:∀t∈[(a,ns),(b,ms)],t.1<s.heap.objs.size:=λt ht=>by
  obtain ⟨_,⟨o,ho,_⟩,_⟩:=TIs t ht
  exact An ho
 have hT:(s.heap.push { cls :=.type "tuple",data :=.seq #[.ref a,.ref b] }).IsTuple s.heap.objs.size #[.ref a,.ref b]:=⟨_,Am _ rfl,rfl,0,rfl⟩
 have hz:(s.heap.push { cls :=.type "tuple",data :=.seq #[.ref a,.ref b] }).objs.size=s.heap.objs.size+1:=B7 ..
 have at_:∀(i:Nat) (v:z9),(#[.ref a,.ref b]:Array z9)[i]? = some v->∃t:Addr×List Int,[(a,ns),(b,ms)][i]? = some t/\v=Ar t.1:=λi v hv=>by
  match i,hv with
  | 0,hv=>exact ⟨_,rfl,(AI hv).symm⟩
  | 1,hv=>exact ⟨_,rfl,(AI hv).symm⟩
  | i+2,hv=>simp at hv
 refine MnT.call2 (Dk hT ?_)
 refine ⟨_,_,_,_,_,_,_,rfl,MnT.more (Fy (A:=X.A.in1) (I.ok.hd hc) _ s.heap.objs.size (by rw[hz];exact AD (BK _)) #[.ref a,.ref b]) [(a,ns),(b,ms)] (λt ht hm =>?_),⟨⟨⟨_,Am _ rfl,rfl,rfl⟩,hT.push _⟩,λt ht=>(TIs t ht).at λo e=>zZ _ (zZ _ e)⟩,λc hc' =>?_,Nat.zero_lt_two,MnT.cmp [(a,ns),(b,ms)] ?_ at_,λv h' tk pv kp =>?_⟩
 ·have:=hlt t ht
  rw[Ah.mp hm,hz] at this
  exact A5 _ (Cw this)
 ·show c<((s.heap.push _).push _).objs.size
  rw[B7,hz]
  rcases As.mp hc' with hc' | hc'
  ·rcases AJ.mp hc' with rfl | hc'
   ·rw[hz];exact BK _
   ·rw[Ah.mp hc'];exact Bo (BK _)
  ·obtain ⟨t,ht,rfl⟩:=Bc.mp hc'
   exact Bo (Bo (hlt t ht))
 ·show X.A.units+_<cLine
  lia
 ·have kept:∀b o,s.heap.get? b=some o->h'.get? b=some o:=λb o e=>kp b o (λhm=>by
   have:=An e
   rw[Ah.mp hm,hz] at this
   exact A5 _ (Cw this)) (zZ _ (zZ _ e))
  by_cases z:HT.lexLt ms ns=true
  ·have e:argBest (λi j=>HT.lexLt ([(a,ns),(b,ms)].getD i (0,[])).2 ([(a,ns),(b,ms)].getD j (0,[])).2) 1=1:=by
    show (if HT.lexLt ms ns=true then 1 else 0)=1
    rw[if_pos z]
   rw[show (#[Ar a,Ar b]:Array z9).size-1=1 from rfl,e] at pv
   have pv:=(AI pv).symm
   exact ⟨.ref b,H,I.kept kept,pv,q1 z⟩
  ·have e:argBest (λi j=>HT.lexLt ([(a,ns),(b,ms)].getD i (0,[])).2 ([(a,ns),(b,ms)].getD j (0,[])).2) 1=0:=by
    show (if HT.lexLt ms ns=true then 1 else 0)=0
    rw[if_neg z]
   rw[show (#[Ar a,Ar b]:Array z9).size-1=1 from rfl,e] at pv
   have pv:=(AI pv).symm
   exact ⟨.ref a,H,I.kept kept,pv,q2 (DT.mpr z)⟩
end
open PySem PySem.Spec PyProof.Rows
section
variable  {X:Cx}
theorem pP (hc:X.calm=true):bM X (.builtin "min") (λxs H Q=>∃(a:Addr) (ns:List Int),xs=[.ref a]/\SqT X.K H a (ns.map V.int)/\ns≠[]/\∀M:Int,M∈ns->(∀b∈ns,M<=b)->Q (.int M) H):=by
 intro pins s σ H xs us Q I r h
 obtain ⟨a,ns,rfl,hS,hne,q⟩:=h
 obtain ⟨u,rfl,ru⟩:=vals1 r
 cases (show u=Ar a from ru)
 obtain ⟨its,r1,p1,_⟩:=I.tuple hS
 obtain ⟨ps,e2,e3⟩:=iS (intsAre_of r1)
 have ei:its.toArray=Df ps.toArray:=by rw[e2];simp[Df]
 have hT:s.heap.IsTuple a (Df ps.toArray):=by
  obtain ⟨o,ho,hc',n,hd⟩:=p1
  exact ⟨o,ho,hc',n,by rw[<- ei];exact hd⟩
 have hz:ps.toArray.size=ns.length:=by rw[Ad, <- e3,z4]
 have hp:0<ns.length:=Cy.mpr hne
 have ht:ps.toArray.toList.map (·.1)=ns:=e3
 have hal:a<s.heap.objs.size:=by obtain ⟨o,ho,_⟩:=p1;exact An ho
 refine call_min_walk (Dk hT ?_)
 refine ⟨_,[_,a],[_],_,_,_,_,rfl,Fy (A:=X.A.in1) (I.ok.hd hc) _ a (AD hal) (Df ps.toArray),⟨⟨_,Am _ rfl,rfl,rfl⟩,hT.push _⟩,λc hc' =>?_,by simp only[Df,BG];lia,HW (numAt ps.toArray) (λ_ _=>Gw),λv h' tk hv hk =>?_⟩
 ·show c<(s.heap.push _).objs.size
  rw[B7]
  rcases AJ.mp hc' with rfl | hc'
  ·exact BK _
  ·rw[Ah.mp hc'];exact Bo hal
 ·have k:∀b o,s.heap.get? b=some o->h'.get? b=some o:=λb o e=>hk b o (λhm=>by
   have:=An e
   rw[Ah.mp hm] at this
   exact A5 _ this) (zZ _ e)
  have hsz:(Df ps.toArray).size=ns.length:=by simp only[Df,BG];exact hz
  rw[hsz] at hv
  obtain ⟨t,rfl⟩:=Gw hv
  obtain ⟨h1,h2⟩:=argBest_lt (numAt ps.toArray) (ns.length-1)
  refine ⟨.int _,H,I.kept k,⟨_,rfl⟩,q _ ?_ λb hb =>?_⟩
  ·rw[HZ,ht];exact yF (by lia)
  ·obtain ⟨j,hj,rfl⟩:=yG hb
   have:=h2 j (by lia)
   rw[HZ,HZ,ht] at this
   rw[HZ,ht]
   exact this
end
open PySem PySem.Spec PyProof.Rows SeqAt
theorem kB (l:Addr)(items:Array z9)(n:Nat)(dd:Option Addr)(sl:Array (Option z9))(x:z9)(e:z9->Bool)(j:Nat)(hj:j<items.size)(hit:e items[j]=true)(hno:∀m (hm:m<items.size),m<j->e items[m]=false) :
  Meets (Builtin.«tuple.index» ⟨[.ref l,x],[]⟩)
   (λA R s=>s.heap.get? l=some { cls :=.type "tuple",dict:=dd,data :=.seq items n,slots:=sl }/\(∀y,y∈items->EqAt A.in1 s y x (e y))/\R (.ok (.ret (.int j s.toks))) { s with toks:=s.toks+1 }) :=
 .of_wp λprog w A R s h=>by
  obtain ⟨hl,he,h⟩:=h
  unfold Builtin.«tuple.index»
  refine zY (Cd (a:=(Ar l,[x])) rfl ?_)
  refine zY (PyProof.Rows.tupleItemsOf_ (⟨_,hl,rfl,_,rfl⟩:IsTup s.heap l items) ?_)
  dsimp only
  refine zY (Aa (zY (Aa ?_)))
  rw[E7,F8]
  refine zY (DZ _ (λrest b s'=>s'=s/\b=(none,())/\∃i,rest=List.range' i (items.size-i)/\i<=j) _ ?_ ?_ _ _ ⟨rfl,rfl,0,?_,A7 _⟩)
  ·rintro k rest b s' ⟨rfl,rfl,i,er,hi⟩
   rw[show items.size-i=(items.size-(i+1))+1 by lia,Hs] at er
   injection er with e1 e2
   subst e1
   have hk:k<items.size:=by lia
   rw[AG hk]
   refine zY (he _ (G3 hk) prog w _ _ ?_)
   by_cases z:k=j
   ·subst z
    rw[hit]
    refine zY (zY (HB (Aa (Aa ?_))))
    exact Aa ⟨_,rfl,h⟩
   ·rw[hno k hk (by lia)]
    exact Aa ⟨rfl,rfl,k+1,e2,by lia⟩
  ·rintro b s' ⟨rfl,rfl,i,er,hi⟩
   rw[show items.size-i=(items.size-(i+1))+1 by lia,Hs] at er
   cases er
  ·simp[Std.Legacy.Range.size]
section
variable  {X:Cx}
theorem sJ:MtR X "tuple.index" (λx vs H Q=>∃(p:Addr) (ns:List Int) (k:Int),x = .ref p/\vs=[.int k]/\H p=some (.tup (ns.map V.int))/\k∈ns/\Q (.int (ns.idxOf k:Nat)) H):=by
 intro pins s σ H x vs v us Q I rx rv h
 obtain ⟨p,ns,k,rfl,rfl,hp,hk,q⟩:=h
 cases rx
 obtain ⟨u,rfl,⟨t,rfl⟩⟩:=vals1 rv
 obtain ⟨z,its,r,ob,e1,⟨c1,d1⟩,n,s1⟩:=(show a6 X.prog X.w H s.heap p (.tup _) from I.hok p _ hp)
 have hi:CA its ns:=intsAre_of r
 have hlen:=hi.length
 have hj:ns.idxOf k<ns.length:=Dx.mpr hk
 obtain ⟨cls,dd,data,sl⟩:=ob
 simp only at c1 s1
 subst c1 s1
 refine EV Fu ⟨_,e1,rfl⟩ PySem.F.entry_tuple_index (PySem.F.args_tuple_index_2 _ _) (kB p its.toArray n dd sl (.int k t) (isInt k) (ns.idxOf k) (by simpa [hlen] using hj) ?_ ?_) ⟨e1,λy hy=>lC hi y hy,⟨.int _,H,I.tok _,⟨_,rfl⟩,q⟩⟩
 ·show isInt k its[ns.idxOf k]=true
  rw[HY k hi _ (by omega) hj];simpa using GK hj
 ·intro j hjs hlt
  show isInt k its[j]=false
  rw[HY k hi j (by simpa using hjs) (by omega)]
  simpa using pK (by omega) hlt
end
end L2
namespace L2.MnT
open PySem PyProof.Rows
section
variable  {prog:Au}{w:AV}{A:Bd}{E:z9->Ac->Prop}{I:Addr}{fp wr:List Addr}{n:Nat}{P:Nat->z9->Prop}{St:Nat->Heap->Prop}
abbrev dE (ts:List (Addr×List Int)):Nat->Nat->Bool:=λi j=>decide ((ts.getD i (0,[])).2.length<(ts.getD j (0,[])).2.length)
theorem uQ {s:Ac}{t:Addr×List Int}{Q:z9->Ac->Prop}(x:TI s.heap t)(hz:t.2.length<2 ^ 63)(h:∀u tk,Q (.int t.2.length u) { s with toks:=tk }):AA (AM prog w) A (call (.builtin "len") [.ref t.1]) Q E s:=by
 obtain ⟨its,ht,hi⟩:=x
 have e:its.size=t.2.length:=by rw[<- hi.length,Ai]
 refine HA ht (by rw[e];lia) ?_
 rw[e]
 exact h _ _
theorem zK {R:Result->Ac->Prop}{ts:List (Addr×List Int)}{kw:List (Str×z9)}(W:Walks prog w A.in1 I fp wr n P St)(hI:∀k h,St k h->∀t∈ts,TI h t)(hP:∀i v,P i v->∃t,ts[i]? = some t/\v = .ref t.1)(hz:∀t∈ts,t.2.length<2 ^ 63){S:Addr}(nS:S∉fp):∀(d j:Nat) (s:Ac) (t:Addr×List Int) (tk c:Nat),n=j+1+d->St (j+1) s.heap->ts[argBest (dE ts) j]? = some t->Bag S #[.ref t.1,.int t.2.length tk] c s.heap →
  (∀t h' tk,ts[argBest (dE ts) (n-1)]? = some t->Kept wr S s.heap h'->R (.ok (.ret (.ref t.1))) { s with heap:=h',toks:=tk })->Ew (AM prog w) A (.builtin "min.loop" ⟨[.ref I,.builtin "len",.ref S],kw⟩) R s:=by
 have nw:S∉wr:=λh=>nS (W.sub _ h)
 have nm:(toString "min" ++ toString ".loop" : String) = "min.loop" := by decide
 intro d
 induction d with
 | zero =>
  intro j s t tk c hn st et bg hR
  have e:j+1=n:=by lia
  rw[e] at st
  refine Bi Cu ?_
  rw[Ba AZ _]
  show AA _ _ (seqItems? (.ref S) >>= _) _ _ s
  refine zY (Dr bg rfl ?_)
  show AA _ _ (tryCatch (pyNext (.ref I)) _ >>= _) _ _ s
  refine zY (Cj (W.done s _ _ st λh1 tk kp =>?_))
  show AA _ _ (updateSeq S (λ_ => #[]) >>= _) _ _ _
  refine zY ?_
  refine B9 (kp S _ nw bg) rfl (zY (Eb (Aa (hR t _ tk (by rw[<- e];exact et) ?_))))
  exact λb o nb ns eb=>(AF _ _ (B4 ns)).trans (kp b o nb eb)
 | succ d ih =>
  intro j s t tk c hn st et bg hR
  refine Bi Cu ?_
  rw[Ba AZ _]
  show AA _ _ (seqItems? (.ref S) >>= _) _ _ s
  refine zY (Dr bg rfl ?_)
  show AA _ _ (tryCatch (pyNext (.ref I)) _ >>= _) _ _ s
  refine zY (Cj (W.item (j+1) s _ _ (by lia) st λv h1 tk1 pv st1 kp =>?_))
  obtain ⟨u,eu,rfl⟩:=hP _ _ pv
  have bg1:=kp S _ nw bg
  show AA _ _ (tryCatch (EM [Ar u.1] (call (.builtin "len") [.ref u.1])) _ >>= _) _ _ _
  refine zY (Cj (Bw (uQ (hI _ _ st1 u (Aj eu)) (hz u (Aj eu)) λtu tk2 =>?_)))
  show AA _ _ (tryCatch (EM [Ar u.1,.int u.2.length tu] (richCompare .Lt (.int u.2.length tu) (.int t.2.length tk) >>= _)) _ >>= _) _ _ _
  refine zY (Cj (Bw (zY (richCompare_gives (op :=.Lt) (Ga _ _ tu) (Ga _ _ tk) PySem.F.slot_int_lt PySem.F.entry_int_lt (PySem.F.args_int_lt_2 _ _) (gives_int_lt _ _ tu tk) (λx=>nomatch x) ?_))))
  refine zY (Bw (B1 ?_))
  refine zY (Eb (Aa ?_))
  have eb':dE ts (j+1) (argBest (dE ts) j)=decide (u.2.length<t.2.length):=by
   show decide _=_
   rw[Aq,Aq,eu,et];rfl
  by_cases hb:u.2.length<t.2.length
  ·have ea:argBest (dE ts) (j+1)=j+1:=by
    show (if dE ts (j+1) (argBest (dE ts) j)=true then _ else _)=_
    rw[eb',if_pos (decide_eq_true hb)]
   rw[show decide ((u.2.length:Int)<(t.2.length:Int))=true from decide_eq_true (by lia)]
   simp only[if_true]
   refine zY ?_
   refine B9 bg1 rfl (zY (Eb ?_))
   rw[nm]
   refine Aa ⟨BB AZ _,ih (j+1) _ u tu _ (by lia) (W.frame _ _ _ st1 λb fb o eb =>?_) (by rw[ea];exact eu) (Bg _ bg1 rfl) λv2 h2 tk2 p2 k2=>hR v2 h2 tk2 p2 λb o nb ns eb=>k2 b o nb ns ?_⟩
   ·exact (AF _ _ (λz:S=b=>nS (z ▸ fb))).trans eb
   ·exact (AF _ _ (B4 ns)).trans (kp b o nb eb)
  ·have ea:argBest (dE ts) (j+1)=argBest (dE ts) j:=by
    show (if dE ts (j+1) (argBest (dE ts) j)=true then _ else _)=_
    rw[eb',if_neg (by simpa using hb)]
   rw[show decide ((u.2.length:Int)<(t.2.length:Int))=false from decide_eq_false (by lia)]
   simp only[Ay,if_false]
   refine zY (Eb ?_)
   rw[nm]
   exact Aa ⟨BB AZ _,ih (j+1) _ t tk c (by lia) st1 (by rw[ea];exact et) bg1 λv2 h2 tk2 p2 k2=>hR v2 h2 tk2 p2 λb o nb ns eb=>k2 b o nb ns (kp b o nb eb)⟩
theorem yL {R:Result->Ac->Prop}{ts:List (Addr×List Int)}{kn:Str}{d:z9}(W:Walks prog w A.in1 I fp wr n P St)(hI:∀k h,St k h->∀t∈ts,TI h t)(hP:∀i v,P i v->∃t,ts[i]? = some t/\v = .ref t.1)(hz:∀t∈ts,t.2.length<2 ^ 63){S:Addr}(nS:S∉fp){s:Ac}{c:Nat}(st:St 0 s.heap)(bg:Bag S #[] c s.heap)
  (hR:∀v h' tk,((0<n/\∃t,ts[argBest (dE ts) (n-1)]? = some t/\v = .ref t.1)\/(n=0/\v=d))->Kept wr S s.heap h'->R (.ok (.ret v)) { s with heap:=h',toks:=tk }):Ew (AM prog w) A (.builtin "min.loop" ⟨[.ref I,.builtin "len",.ref S],[(kn,d)]⟩) R s:=by
 have nw:S∉wr:=λh=>nS (W.sub _ h)
 have nm:(toString "min" ++ toString ".loop" : String) = "min.loop" := by decide
 refine Bi Cu ?_
 rw[Ba AZ _]
 show AA _ _ (seqItems? (.ref S) >>= _) _ _ s
 refine zY (Dr bg rfl ?_)
 show AA _ _ (tryCatch (pyNext (.ref I)) _ >>= _) _ _ s
 by_cases hn:n=0
 ·subst hn
  refine zY (Cj (W.done s _ _ st λh1 tk kp =>?_))
  exact zY (Dh (Aa (hR d h1 tk (.inr ⟨rfl,rfl⟩) λb o nb _ eb=>kp b o nb eb)))
 refine zY (Cj (W.item 0 s _ _ (by lia) st λv h1 tk pv st1 kp =>?_))
 obtain ⟨u,eu,rfl⟩:=hP _ _ pv
 have bg1:=kp S _ nw bg
 show AA _ _ (tryCatch (EM [Ar u.1] (call (.builtin "len") [.ref u.1])) _ >>= _) _ _ _
 refine zY (Cj (Bw (uQ (hI _ _ st1 u (Aj eu)) (hz u (Aj eu)) λtu tk2 =>?_)))
 show AA _ _ (updateSeq S (λ_ => #[.ref u.1,.int u.2.length tu]) >>= _) _ _ _
 refine zY ?_
 refine B9 bg1 rfl ?_
 rw[nm]
 refine Aa ⟨BB AZ _,zK W hI hP hz nS (n-1) 0 _ u tu _ (by lia) (W.frame _ _ _ st1 λb fb o eb =>?_) eu (Bg _ bg1 rfl) λt2 h2 tk2 p2 k2=>hR _ h2 tk2 (.inl ⟨by lia,t2,p2,rfl⟩) λb o nb ns eb=>k2 b o nb ns ?_⟩
 ·exact (AF _ _ (λz:S=b=>nS (z ▸ fb))).trans eb
 ·exact (AF _ _ (B4 ns)).trans (kp b o nb eb)
theorem sL (a f d:z9):argsOk "min" ⟨[a],[("key",f),("default",d)]⟩:=by unfold argsOk;kernel_rfl
theorem zL {s:Ac}{l:Addr}{its:Array z9}{ts:List (Addr×List Int)}{d:z9}{Q:z9->Ac->Prop}(hh:A.handled=none)(hl:s.heap.IsList l its)(hT:∀t∈ts,TI s.heap t)(hP:∀(i:Nat) (v:z9),its[i]? = some v->∃t,ts[i]? = some t/\v = .ref t.1)(hz:∀t∈ts,t.2.length<2 ^ 63)
  (h:∀v h' tk,((0<its.size/\∃t,ts[argBest (dE ts) (its.size-1)]? = some t/\v = .ref t.1)\/(its.size=0/\v=d))->(∀b o,s.heap.get? b=some o->h'.get? b=some o)->Q v { s with heap:=h',toks:=tk }) :
  AA (AM prog w) A (call (.builtin "min") [.ref l] [("key",.builtin "len"),("default",d)]) Q E s:=by
 have nm:(toString "min" ++ toString ".loop" : String) = "min.loop" := by decide
 have hlt:∀t∈ts,t.1<s.heap.objs.size:=λt ht=>by
  obtain ⟨_,⟨o,ho,_⟩,_⟩:=hT t ht
  exact An ho
 have hpl:l<s.heap.objs.size:=by obtain ⟨_,e,_⟩:=hl;exact An e
 refine Ha (EO Fs Ft ?_)
 have hg:AA (AM prog w) A.in1 (Builtin.«min» ⟨[.ref l],[("key",.builtin "len"),("default",d)]⟩) (λfin s'=>match fin with
   | .done f=>(match (Except.ok f:Result) with | .ok (.ret v)=>Q v s' | .ok _=>False | .error e=>E e s')
   | .again c'=>c'.quiet=true/\Ew (AM prog w) A c' (λr s'=>match r with | .ok (.ret v)=>Q v s' | .ok _=>False | .error e=>E e s') s') E s:=by
  show AA _ A.in1 (Builtin.Builtins.bindParams "min" ["key", "default"] 0 ⟨[],[("key",.builtin "len"),("default",d)]⟩ >>= _) _ _ s
  refine zY (Cd (a:=[some (.builtin "len"),some d]) rfl ?_)
  refine zY (Aa ?_)
  refine zY (Dz hl ?_)
  refine zY (A2 ?_)
  have W:=more (G0 (prog:=prog) (w:=w) (A:=A.in1) hh s.heap.objs.size l (AD hpl) its) ts (λt ht hm=>by
   have:=hlt t ht
   rw[Ah.mp hm] at this
   exact A5 _ this)
  rw[nm]
  refine Aa ⟨BB AZ _,yL W (λk h x=>x.2) hP hz ?_ ⟨⟨⟨_,zZ _ (Am _ rfl),rfl,rfl⟩,(hl.push _).push _⟩,λt ht=>(hT t ht).at λo e=>zZ _ (zZ _ e)⟩ (Am _ rfl) λv h' tk hv kp =>?_⟩
  ·intro hm
   rw[B7] at hm
   rcases As.mp hm with hm | hm
   ·rcases AJ.mp hm with e | hm
    ·exact Nat.succ_ne_self _ e
    ·have:=Ah.mp hm
     rw[<- this] at hpl
     exact A5 _ (Cw hpl)
   ·obtain ⟨t,ht,e⟩:=Bc.mp hm
    have:=hlt t ht
    rw[e] at this
    exact A5 _ (Cw this)
  ·refine h v h' tk hv λb o e=>kp b o (λhm =>?_) (λz =>?_) (zZ _ (zZ _ e))
   ·have:=An e
    rw[Ah.mp hm] at this
    exact A5 _ this
   ·have:=An e
    rw[z,B7] at this
    exact A5 _ (Cw this)
 simp only[checkBuiltinCall,FE]
 cases hsig:Manifest.signature? "min" with
 | none=>exact Aa hg
 | some sig =>
  have ha':Bind.checkArgs "min" sig ⟨[.ref l],[("key",.builtin "len"),("default",d)]⟩=pure ():=by simpa only[argsOk,hsig] using sL (.ref l) (.builtin "len") d
  simp only[ha']
  exact Aa hg
end
end L2.MnT
namespace L2
open PySem PySem.Spec PyProof.Rows
theorem MnT.xA (g:Nat->Nat):∀k,∀j,j<=k->g (argBest (λi j=>decide (g i<g j)) k)<=g j
 | 0,j,hj=>by rw[Hy.mp hj];exact Ag _
 | k+1,j,hj=>by
  have ih:=MnT.xA g k
  by_cases hb:g (k+1)<g (argBest (λi j=>decide (g i<g j)) k)
  ·have ea:argBest (λi j=>decide (g i<g j)) (k+1)=k+1:=by simp only[argBest,decide_eq_true hb,if_true]
   rw[ea]
   by_cases e:j=k+1
   ·rw[e];exact Ag _
   ·have:=ih j (by lia);lia
  ·have ea:argBest (λi j=>decide (g i<g j)) (k+1)=argBest (λi j=>decide (g i<g j)) k:=by simp only[argBest,decide_eq_false hb];rfl
   rw[ea]
   by_cases e:j=k+1
   ·rw[e];lia
   ·exact ih j (by lia)
section
variable  {X:Cx}
def wO (K:z8)(te:TE):TE:=λσ H Q=>te σ H λx H1=>∃(p:Addr) (ts:List (Addr×List Int)),[x]=[.ref p]/\SqL K H1 p (ts.map λt =>.ref t.1)/\(∀t∈ts,SqT K H1 t.1 (t.2.map V.int))/\(ts=[]->Q .non H1)/\∀t∈ts,(∀u∈ts,t.2.length<=u.2.length)->Q (.ref t.1) H1
theorem sM {e:Expr}{te:TE}{j:Nat}{p p2 p3 pos kpos kpos2:Pos}(hc:X.calm=true)(hg:Gl X "min")(hm:X.mg "min" = none)(hg2:Gl X "len")(hm2:X.mg "len" = none)(hv:Bz "min" = some (.builtin "min"))(he:PE X e te)
    (hs:Bt (e :: []) X.env=(false,eval e X.env) :: Bt [] X.env:=by rfl)
    (ha:Ez pos (Bt (e :: []) X.env)=(false,eval e X.env) :: Ez pos (Bt [] X.env):=by rfl)
    (hplain:(Ez pos (Bt (e :: []) X.env)).any (·.1)=false:=by rfl) :
    PE X (.Call (.Name "min" p) [e] [⟨some "key",.Name "len" p2,kpos⟩,⟨some "default",.Constant .none j p3,kpos2⟩] pos) (wO X.K te):=by
  intro pins s σ H Q I h
  refine Dl (eF I hg hm hv ?_)
  refine PyProof.Rows.callWith_kw (thn ((aa he af hs) pos pins s σ H (λvs H1=>∃(p:Addr) (ts:List (Addr×List Int)),vs=[.ref p]/\SqL X.K H1 p (ts.map λt:Addr×List Int=>V.ref t.1)/\(∀t∈ts,SqT X.K H1 t.1 (t.2.map V.int))/\(ts=[]->Q .non H1)/\∀t∈ts,(∀u∈ts,t.2.length<=u.2.length)->Q (.ref t.1) H1) I h) λus s1 ⟨vs,H1,I1,r1,q1⟩ =>?_) ha hplain rfl rfl
  show AA _ _ (evalAll ((do let v ← eval (.Name "len" p2) X.env;standAt pos;pure v) :: (do let v ← eval (.Constant .none j p3) X.env;standAt pos;pure v) :: [])) _ _ s1
  refine GV (zY (eF I1 hg2 hm2 PySem.boot_len (zY (Et (Aa ?_)))))
  refine GV (zY (Constant_none (zY (Et (Aa (wpAny_evalAll_nil ?_))))))
  show AA _ _ (call (.builtin "min") us [("key",.builtin "len"),("default",.none)]) _ _ s1
  obtain ⟨a,ts,rfl,hq,ht,q0,q⟩:=q1
  obtain ⟨u,rfl,ru⟩:=vals1 r1
  cases (show u=Ar a from ru)
  obtain ⟨its,rv,p1,_⟩:=I1.list hq
  have ll:=rv.length
  rw[z4] at ll
  refine MnT.zL (ts:=ts) (I1.ok.hd hc) p1.isList (λt h' =>?_) (λi v hv =>?_) (λt h' =>?_) λv h' tk hv k =>?_
  · obtain ⟨i2,r2,p2,_⟩:=I1.tuple (ht t h')
    exact ⟨_,p2,intsAre_of r2⟩
  · rw[BI] at hv
    have hi:i<ts.length:=by rw[ll];exact (Af.mp hv).1
    have e1:(ts.map λt=>V.ref t.1)[i]? = some (.ref ts[i].1):=by rw[Aw,Ab hi];rfl
    obtain ⟨w',ew,rw'⟩:=rv.get e1
    rw[ew] at hv
    exact ⟨ts[i],Ab hi,(AI hv).symm.trans rw'⟩
  · obtain ⟨i2,r2,p2,z2⟩:=I1.tuple (ht t h')
    rw[z4,Dq] at z2
    lia
  · rw[Ad, <- ll] at hv
    rcases hv with ⟨hn,t,et,rfl⟩ | ⟨hn,rfl⟩
    · refine ⟨.ref t.1,H1,I1.kept k,rfl,q t (Aj et) λu hu =>?_⟩
      obtain ⟨i,hi,eu⟩:=D9 hu
      have:=MnT.xA (λi=>(ts.getD i (0,[])).2.length) (ts.length-1) i (by lia)
      rw[Aq,Aq,et,Ab hi,eu] at this
      exact this
    · exact ⟨.non,H1,I1.kept k,rfl,q0 (Er.mp hn)⟩
end
open PySem PySem.Spec PyProof.Rows
section
variable  {X:Cx}
end
theorem yM {X:Cx}{k:Nat}(hr:cg k X.A):OpR X (BQ .NotEq) (λx y H Q=>∃(a b:Addr) (xs:List V),x = .ref a/\y = .ref b/\H a=some (.lst xs)/\H b=some (.lst [])/\(xs=[]->Q (.bl false) H)/\(xs≠[]->Q (.bl true) H)):=by
 intro pins s σ H x y v u Q I rx ry h
 obtain ⟨a,b,xs,rfl,rfl,h1,h2,q0,q1⟩:=h
 cases (show v=Ar a from rx)
 cases (show u=Ar b from ry)
 obtain ⟨i1,r1,p1,_⟩:=I.list (SqL.of (K:=X.K) h1)
 obtain ⟨i2,r2,p2,_⟩:=I.list (SqL.of (K:=X.K) h2)
 have l1:=r1.length
 have l2:=r2.length
 rw[Ck] at l2
 have hu:=hr.un
 have hu1:X.A.units<cLine:=by lia
 by_cases c:xs=[]
 ·subst c
  rw[Ck] at l1
  have R:=GL (A:=X.A) (e:=λ_=>true) p1.isList p2.isList (by rw[Ad,Ad];lia) hu1 (λj g1 _=>by rw[Ad] at g1;lia)
  rw[Ad, <- l1] at R
  exact R _ _ _ _ ⟨.bl false,H,I,rfl,q0 rfl⟩
 ·have:=Cy.mpr c
  exact SeqAt.RcNeAt.lists_lengths (A:=X.A) p1.isList p2.isList (by simp;lia) hu1 _ _ _ _ ⟨.bl true,H,I,rfl,q1 c⟩
open PySem PySem.Spec PyProof.Rows
section
variable  {X:Cx}
theorem op_eqLS {k:Nat}(hr:cg k X.A):OpR X (BQ .Eq) (λx y H Q=>∃a b xs ys,x = .ref a/\y = .ref b/\SqL X.K H a xs/\SqL X.K H b ys/\((xs.length≠ys.length/\Q (.bl false) H)\/(Paired (EqS X.K H 20) xs ys/\Q (.bl true) H))):=by
 intro pins s σ H x y v u Q I rx ry h
 obtain ⟨a,b,xs,ys,rfl,rfl,h1,h2,h3⟩:=h
 rcases h3 with d | ⟨p,q⟩
 ·exact yJ hr pins s σ H _ _ v u Q I rx ry ⟨a,b,xs,ys,rfl,rfl,h1,h2,.inl d⟩
 cases (show v=Ar a from rx)
 cases (show u=Ar b from ry)
 obtain ⟨us,r1,p1,_⟩:=I.list h1
 obtain ⟨vs,r2,p2,_⟩:=I.list h2
 have un:=hr.un
 have R:=EG (A:=X.A) (e:=λ_=>true) p1.isList p2.isList (by rw[Ad,Ad, <- r1.length, <- r2.length,CO p]) (by lia) (dD p r1 r2 λx y u v z1 z2 z3=>mN I 20 _ x y u v (by show X.A.units+1+_<cLine;lia) z1 z2 z3)
 rw[all_true] at R
 exact R _ _ _ _ ⟨.bl true,H,I,rfl,q⟩
theorem wQ {k:Nat}(hr:cg k X.A):OpR X (BQ .NotEq) (λx y H Q=>∃a b xs ys,x = .ref a/\y = .ref b/\SqL X.K H a xs/\SqL X.K H b ys/\Paired (EqS X.K H 20) xs ys/\Q (.bl false) H):=by
 intro pins s σ H x y v u Q I rx ry h
 obtain ⟨a,b,xs,ys,rfl,rfl,h1,h2,p,q⟩:=h
 cases (show v=Ar a from rx)
 cases (show u=Ar b from ry)
 obtain ⟨us,r1,p1,_⟩:=I.list h1
 obtain ⟨vs,r2,p2,_⟩:=I.list h2
 have un:=hr.un
 have R:=GL (A:=X.A) (e:=λ_=>true) p1.isList p2.isList (by rw[Ad,Ad, <- r1.length, <- r2.length,CO p]) (by lia) (dD p r1 r2 λx y u v z1 z2 z3=>mN I 20 _ x y u v (by show X.A.units+1+_<cLine;lia) z1 z2 z3)
 rw[all_true] at R
 exact R _ _ _ _ ⟨.bl false,H,I,rfl,q⟩
end
open PySem PySem.Spec PyProof.Rows
def bG (K:z8)(x:Str)(st:Stmt):Prop:=∃(f:Addr) (od an:Option Addr) (sl:Array (Option z9)) (oc kV dc pm cd ct:z9),BC K A9 x=some (some (.ref f))/\K.lookup f=some ⟨oc,od,.func (PySem.W.fnOf x x (bE st) (ba st) (ak st) .none kV dc pm an cd ct),sl⟩/\PySem.W.codeIn K cd x=true/\PySem.W.keepIn K (.ref f)=true
theorem bG.mk {K:z8}{x:Str}{st:Stmt}{f:Addr}{od an:Option Addr}{sl:Array (Option z9)}{oc kV dc pm cd ct:z9}(a:BC K A9 x=some (some (.ref f)))(l:K.lookup f=some ⟨oc,od,.func (PySem.W.fnOf x x (bE st) (ba st) (ak st) .none kV dc pm an cd ct),sl⟩)(c:PySem.W.codeIn K cd x=true)(k:PySem.W.keepIn K (.ref f)=true):bG K x st:=⟨_,_,_,_,_,_,_,_,_,_,a,l,c,k⟩
theorem bG.cal {K:z8}{x:Str}{st:Stmt}(hf:bG K x st)(P:Au)(w:AV)(base:Heap){h:Heap}{mg:Str->Option z9}(X:K.In h)(G:h.Ns A9 mg){lv:Nat}{ps:List Str}{sp:Sp}(ok:∀{f:Addr} {fd:A3},Fun K x x st f fd->a7 P w K mg base CX0 lv f fd ps sp)
  (hb:∀(kV doc pm:z9) (an:Option Addr) (cdv ct:z9) (us:List z9),us.length=ps.length->bindArgs (PySem.W.fnOf x x (bE st) (ba st) (ak st) .none kV doc pm an cdv ct) ⟨us,[]⟩=pure (ps.zip us)):Cal P w K mg base lv x ps sp:=by
 obtain ⟨f,od,an,sl,oc,kV,dc,pm,cd,ct,a,l,c,k⟩:=hf
 have F:=tZ l c k
 exact ⟨_,_,ok F,ET X G a,k,F.binds hb⟩
open PySem PySem.Spec PyProof.Rows
section
variable  {X:Cx}
theorem oA:bM X (.builtin "isinstance") (λxs H Q=>∃(a:Addr) (ys:List V),xs=[.ref a,.ty "tuple"]/\SqT X.K H a ys/\PySem.W.kitOne X.K (.type "tuple") (.type "tuple")=some true/\Q (.bl true) H):=by
 intro pins s σ H xs us Q I r h
 obtain ⟨a,ys,rfl,hS,e,q⟩:=h
 obtain ⟨u,v,rfl,ru,rv⟩:=vals2 r
 cases (show u=Ar a from ru)
 cases (show v=CI "tuple" from rv)
 obtain ⟨its,_,⟨o,h1,h2,_⟩,_⟩:=I.tuple hS
 exact BR Gz I.kIn ⟨o,h1,h2⟩ e (λz=>nomatch z) λtk=>⟨.bl true,H,I.tok _,rfl,q⟩
theorem SqT.lit {K:z8}{H:Hp}{a:Addr}{o:Obj}{its:Array z9}{n:Nat}{xs:List V}(h:K.lookup a=some o)(c:o.cls = .type "tuple")(d:o.data = .seq its n)(z:its.size<=Ao)(r:Vals xs its.toList):SqT K H a xs :=.inr ⟨o,its,n,h,c,d,z,r⟩
end
open PySem PySem.Spec PyProof.Rows
def sN (K:z8)(x:Str)(st:Stmt)(dv:Int):Prop:=∃(f T:Addr) (od an td:Option Addr) (sl ts:Array (Option z9)) (oc kV dc pm cd ct tc:z9) (tt tn:Nat),BC K A9 x=some (some (.ref f))/\K.lookup f=some ⟨oc,od,.func (PySem.W.fnOf x x (bE st) (ba st) (ak st) (.ref T) kV dc pm an cd ct),sl⟩/\PySem.W.codeIn K cd x=true/\PySem.W.keepIn K (.ref f)=true/\K.lookup T=some ⟨tc,td,.seq #[.int dv tt] tn,ts⟩
theorem sN.mk {K:z8}{x:Str}{st:Stmt}{dv:Int}{f T:Addr}{od an td:Option Addr}{sl ts:Array (Option z9)}{oc kV dc pm cd ct tc:z9}{tt tn:Nat}(a:BC K A9 x=some (some (.ref f)))(l:K.lookup f=some ⟨oc,od,.func (PySem.W.fnOf x x (bE st) (ba st) (ak st) (.ref T) kV dc pm an cd ct),sl⟩)(c:PySem.W.codeIn K cd x=true)(k:PySem.W.keepIn K (.ref f)=true)(t:K.lookup T=some ⟨tc,td,.seq #[.int dv tt] tn,ts⟩):sN K x st dv:=⟨_,_,_,_,_,_,_,_,_,_,_,_,_,_,_,_,a,l,c,k,t⟩
theorem sN.cals {K:z8}{x:Str}{st:Stmt}{dv:Int}(hf:sN K x st dv)(P:Au)(w:AV)(base:Heap){h:Heap}{mg:Str->Option z9}(X:K.In h)(G:h.Ns A9 mg){lv:Nat}{ps:List Str}{sp:Sp}(ok:∀{f T:Addr} {fd:A3},uL K x x st f fd T->a7 P w K mg base CX0 lv f fd ps sp)
  (hb:∀(T:Addr) (kV doc pm:z9) (an td:Option Addr) (cdv ct tc:z9) (tt tn:Nat) (ts:Array (Option z9)),K.lookup T=some ⟨tc,td,.seq #[.int dv tt] tn,ts⟩->Binds K (PySem.W.fnOf x x (bE st) (ba st) (ak st) (.ref T) kV doc pm an cdv ct) ps []/\Binds K (PySem.W.fnOf x x (bE st) (ba st) (ak st) (.ref T) kV doc pm an cdv ct) ps [.int dv tt]) :
  Cal P w K mg base lv x ps sp/\wH P w K mg base lv x ps sp (.int dv):=by
 obtain ⟨f,T,od,an,td,sl,ts,oc,kV,dc,pm,cd,ct,tc,tt,tn,a,l,c,k,t⟩:=hf
 have F:=wI l c k
 obtain ⟨b1,b2⟩:=hb T kV dc pm an td cd ct tc tt tn ts t
 exact ⟨⟨_,_,ok F,ET X G a,k,b1⟩,⟨_,_,_,ok F,ET X G a,k,b2,⟨_,rfl⟩⟩⟩
end L2
set_option maxHeartbeats 800000
namespace K38
open PySem L2
def top (i:Nat):Stmt:=PySem.Challenge.pw_ringfell_k38_what_layers_take.main.body.getD i (.Pass ⟨0,0,0,0⟩)
abbrev cY:Stmt:=top 1
abbrev jX:Stmt:=top 2
abbrev eV:Stmt:=top 3
abbrev uS:Stmt:=top 5
abbrev jY:Stmt:=top 6
abbrev jZ:Stmt:=top 7
abbrev eX:Stmt:=top 8
abbrev qI:Stmt:=top 9
abbrev iz:Stmt:=top 11
abbrev dF:Stmt:=top 12
abbrev gq:Stmt:=top 13
abbrev eZ:Stmt:=top 14
abbrev e6:Stmt:=top 15
abbrev gr:Stmt:=top 16
abbrev gs:Stmt:=top 19
abbrev fc:Stmt:=top 20
abbrev fe:Stmt:=top 21
abbrev pQ:Stmt:=top 23
abbrev pR:Stmt:=top 24
abbrev uT:Stmt:=top 25
abbrev uU:Stmt:=top 26
abbrev iA:Stmt:=top 27
abbrev mO:Stmt:=top 28
abbrev pS:Stmt:=top 29
abbrev iB:Stmt:=top 30
abbrev j0:Stmt:=top 31
abbrev gW:Stmt:=top 33
abbrev mP:Stmt:=top 34
abbrev dZ:Stmt:=top 35
abbrev mQ:Stmt:=top 36
abbrev fH:Stmt:=top 37
abbrev mR:Stmt:=top 38
abbrev cQ:Stmt:=top 39
abbrev d7:Stmt:=top 40
abbrev sO:Stmt:=top 41
structure Blt (mg:Str->Option z9):Prop where
 b_abs:mg "abs" = none
 b_all:mg "all" = none
 b_bool:mg "bool" = none
 b_int:mg "int" = none
 b_isinstance:mg "isinstance" = none
 b_len:mg "len" = none
 b_list:mg "list" = none
 b_max:mg "max" = none
 b_min:mg "min" = none
 b_range:mg "range" = none
 b_reversed:mg "reversed" = none
 b_set:mg "set" = none
 b_sorted:mg "sorted" = none
 b_tuple:mg "tuple" = none
theorem pU:Bz "abs" = some (.builtin "abs"):=by decide +kernel
theorem yN:Bz "all" = some (.builtin "all"):=by decide +kernel
theorem wR:Bz "bool" = some (.type "bool"):=by decide +kernel
theorem yO:Bz "int" = some (.type "int"):=by decide +kernel
theorem cD:Bz "isinstance" = some (.builtin "isinstance"):=by decide +kernel
theorem bV:Bz "len" = some (.builtin "len"):=by decide +kernel
theorem qJ:Bz "list" = some (.type "list"):=by decide +kernel
theorem j1:Bz "max" = some (.builtin "max"):=by decide +kernel
theorem iC:Bz "min" = some (.builtin "min"):=by decide +kernel
theorem yP:Bz "set" = some (.type "set"):=by decide +kernel
theorem fI:Bz "sorted" = some (.builtin "sorted"):=by decide +kernel
theorem cn:Bz "tuple" = some (.type "tuple"):=by decide +kernel
theorem hu8 {A:Bd}{k:Nat}(hr:cg k A):A.units+8<cLine:=CG (D7 (by decide:8<=64) _) hr.units
abbrev uV:Stmt:=jY
abbrev zM:Stmt:=qI
abbrev zN:Stmt:=uS
abbrev uW:Stmt:=jZ
structure Wb (H:Hp)(r:Addr)(m:Int)(ts:List (Addr×List Int)):Prop where
 at':∃t,H r=some (.tup [.int m,.ref t])/\H t=some (.tup (ts.map λu =>.ref u.1))
 tup:∀u∈ts,H u.1=some (.tup (u.2.map V.int))
 pr:∀u∈ts,∃a b:Int,u.2=[a,b]/\0<=a/\a<=b/\b<m
 len:ts.length<=200
theorem Wb.tp {H H':Hp}{r:Addr}{m:Int}{ts:List (Addr×List Int)}(h:Wb H r m ts)(t:Tp H H'):Wb H' r m ts :=
 let ⟨p,e1,e2⟩:=h.at'
 ⟨⟨p,t _ _ e1,t _ _ e2⟩,λu hu=>t _ _ (h.tup u hu),h.pr,h.len⟩
theorem Wb.same {H H':Hp}{r:Addr}{m:Int}{ts:List (Addr×List Int)}(h:Wb H r m ts)(s:aA H H'):Wb H' r m ts:=h.tp s.tp
theorem item {ts:List (Addr×List Int)}{i:Nat}{x:V}(e:(ts.map λt:Addr×List Int=>V.ref t.1)[i]? = some x):∃u,ts[i]? = some u/\x = .ref u.1:=by
 rw[Aw] at e
 cases z:ts[i]? with
 | none=>rw[z] at e;cases e
 | some tt=>rw[z] at e;exact ⟨tt,rfl,(AI e).symm⟩
theorem take_snoc {α β:Type}{f:α -> β}{l:List α}{i:Nat}{x:α}(e:l[i]? = some x):(l.take (i+1)).map f=(l.take i).map f++[f x]:=by
 rw[Bm,e,AE];rfl
theorem aA.bQ {H H':Hp}{l:Addr}(s:aA H H')(hl:H l=none)(o:HO):aA H (upd H' l o):=λb u e=>by
 rw[aD (aN e hl)];exact s _ _ e
def key (t:Addr×Int×Int):List Int:=nrm t.2.1 t.2.2
section
variable  {P:Au}{w:AV}{K:z8}{mg:Str->Option z9}{base:Heap}{f:Addr}{fd:A3}
end
theorem sP {X:Cx}{body:List Stmt}{D0:Ends}{σ0:St}{H0:Hp}(sts:List Stmt)(M:St->Hp->Prop)(h:∃t2,PSs X sts t2/\∀σ H,M σ H->t2 D0 σ H)
  (g:∀t2,PSs X sts t2->(∀σ H,M σ H->t2 D0 σ H)->∃t,PSs X body t/\t D0 σ0 H0):∃t,PSs X body t/\t D0 σ0 H0:=by
 obtain ⟨t2,p2,m2⟩:=h
 exact g t2 p2 m2
def T3 (H:Hp)(ys:List V)(us:List (Addr×Int×Int)):Prop:=ys=us.map (λu =>.ref u.1)/\∀u∈us,H u.1=some (.tup [.int u.2.1,.int u.2.2])
section
variable  {P:Au}{w:AV}{K:z8}{mg:Str->Option z9}{base:Heap}{f:Addr}{fd:A3}
end
section
variable  {P:Au}{w:AV}{K:z8}{mg:Str->Option z9}{base:Heap}{f:Addr}{fd:A3}
end
def nb1 (p:List Int)(k:Int):List Int:=if p.getD 0 0=p.getD 1 0 then [] else if p.getD 0 0=k then [p.getD 1 0] else if p.getD 1 0=k then [p.getD 0 0] else []
theorem mS {a b k x:Int}:x∈nb1 [a,b] k↔a≠b/\((a=k/\x=b)\/(b=k/\x=a)):=by
 show x∈(if a=b then [] else if a=k then [b] else if b=k then [a] else [])↔_
 by_cases h1:a=b
 ·rw[if_pos h1];simp[h1]
 ·rw[if_neg h1]
  by_cases h2:a=k
  ·rw[if_pos h2,Ah]
   exact ⟨λe=>⟨h1,.inl ⟨h2,e⟩⟩,λ⟨_,h⟩=>h.elim (λz=>z.2) λz=>absurd (h2.trans z.1.symm) h1⟩
  ·rw[if_neg h2]
   by_cases h3:b=k
   ·rw[if_pos h3,Ah]
    exact ⟨λe=>⟨h1,.inr ⟨h3,e⟩⟩,λ⟨_,h⟩=>h.elim (λz=>absurd z.1 h2) λz=>z.2⟩
   ·rw[if_neg h3]
    exact ⟨λh=>(by cases h),λ⟨_,h⟩=>h.elim (λz=>absurd z.1 h2) λz=>absurd z.1 h3⟩
def nbs (ns:List (List Int))(k:Int):List Int:=ns.flatMap λp=>nb1 p k
theorem i8 {ns:List (List Int)}{k x:Int}:x∈nbs ns k↔∃p∈ns,x∈nb1 p k:=List.mem_flatMap
theorem lO {k:Int}:∀{ns:List (List Int)},ns.Nodup->(∀p∈ns,∃a b:Int,p=[a,b]/\a<=b)->(nbs ns k).Nodup
 | [],_,_=>by simp[nbs]
 | p :: ns,nd,h=>by
  obtain ⟨np,nd'⟩:=C2.mp nd
  have ih:=lO (k:=k) nd' λq hq=>h q (AK _ hq)
  show (nb1 p k++nbs ns k).Nodup
  rw[EC]
  refine ⟨?_,ih,λx hx y hy e =>?_⟩
  ·unfold nb1;(repeat' split) <;> simp
  ·subst e
   obtain ⟨a,b,rfl,ab⟩:=h p AN
   obtain ⟨q,hq,hy⟩:=i8.mp hy
   obtain ⟨c,d,rfl,cd⟩:=h q (AK _ hq)
   rw[mS] at hx hy
   apply np
   obtain ⟨n1,hx⟩:=hx
   obtain ⟨n2,hy⟩:=hy
   have:a=c/\b=d:=by
    rcases hx with ⟨h1,h2⟩ | ⟨h1,h2⟩ <;> rcases hy with ⟨h3,h4⟩ | ⟨h3,h4⟩ <;> lia
   rw[this.1,this.2]
   exact hq
theorem j2 {o:List Int}(h:o.Pairwise (· <= ·))(nd:o.Nodup):o.Pairwise (· < ·):=by
 have:o.Pairwise (λa b=>a<=b/\a≠b):=Il h nd
 exact this.imp λ{a b} z=>by lia
structure Rows (H2 H':Hp)(as:List Addr)(vs:List (List Int)):Prop where
 len:vs.length=as.length
 row:∀(j:Nat) a v,as[j]? = some a->vs[j]? = some v->H' a=some (.lst (v.map V.int))
 stay:∀b u,b∉as->H2 b=some u->H' b=some u
theorem Rows.push {H2 H':Hp}{as:List Addr}{vs:List (List Int)}(R:Rows H2 H' as vs)(nd:as.Nodup){j:Nat}{a:Addr}{v:List Int}(ea:as[j]? = some a)(ev:vs[j]? = some v)(x:Int) :
  Rows H2 (upd H' a (.lst ((v.map V.int)++[V.int x]))) as (vs.set j (v++[x])):=by
 have hj:j<vs.length:=(Af.mp ev).1
 refine ⟨by rw[C6];exact R.len,λi b u eb eu =>?_,λb u hb e =>?_⟩
 ·by_cases h:i=j
  ·subst h
   rw[ea] at eb;cases eb
   rw[Ct hj] at eu;cases eu
   rw[ah,AE];rfl
  ·rw[CL (B4 h)] at eu
   have ne:b≠a:=λz=>by
    subst z
    have hi:i<as.length:=(Af.mp eb).1
    exact h ((List.getElem?_inj hi nd).mp (eb.trans ea.symm))
   rw[aD ne]
   exact R.row i b u eb eu
 ·have ne:b≠a:=λz=>hb (z ▸ Aj ea)
  rw[aD ne]
  exact R.stay b u hb e
def yQ (vs:List (List Int))(m:Nat)(ns:List (List Int)):Prop:=vs.length=m/\∀(j:Nat) v,vs[j]? = some v->v=nbs ns (j:Int)
theorem qK (k:Int):∀ns:List (List Int),(nbs ns k).length<=ns.length
 | []=>by simp[nbs]
 | p :: ns=>by
  show (nb1 p k++nbs ns k).length<=_
  have:=qK k ns
  have h1:(nb1 p k).length<=1:=by unfold nb1;(repeat' split) <;> simp
  rw[Ae,AR]
  lia
theorem oB (ns:List (List Int))(p:List Int)(k:Int):nbs (ns++[p]) k=nbs ns k++nb1 p k:=by unfold nbs;simp
abbrev oD:Sp:=λvs H Q _=>∃(r:Addr) (m:Int) (ts:List (Addr×List Int)),vs=[.ref r]/\Wb H r m ts/\0<=m/\m<=1000/\∀(l:Addr) (H':Hp) (os:List (Addr×List Int)),aA H H'->H' l=some (.lst (os.map λu =>.ref u.1))->os.length=m.toNat->(∀u∈os,H' u.1=some (.lst (u.2.map V.int))) →
 (∀(j:Nat) u,os[j]? = some u->u.2.Pairwise (· < ·)/\∀x,x∈u.2↔x∈nbs (ts.map (·.2)) (j:Int))->Q (.ref l) H'
@[irreducible] def i9:Sp:=oD
theorem ff {vs:List V}{H:Hp}{Q:VK}{E:XK}:i9 vs H Q E↔oD vs H Q E:=by
 delta i9
 exact Cp
theorem kD {X:Cx}{K:z8}(h:X.K=K:=by rfl):bM X (.builtin "sorted") (λxs H Q=>∃(p:Addr) (ns:List Int),xs=[.ref p]/\(SqL K H p (ns.map V.int)\/SqT K H p (ns.map V.int))/\∀(l:Addr) (out:List Int),H l=none->out.Perm ns->out.Pairwise (· <= ·)->Q (.ref l) (upd H l (.lst (out.map V.int)))):=by
 subst h;exact mz
section
variable  {P:Au}{w:AV}{K:z8}{mg:Str->Option z9}{base:Heap}{f:Addr}{fd:A3}
theorem ndPl:(["place"]:List Str).Nodup:=by decide +kernel
theorem ndRo:(["row"]:List Str).Nodup:=by decide +kernel
theorem mU:aE ["web", "near", "tie"] ["web"] (ak uV):=⟨rfl,rfl,rfl,by decide +kernel,rfl,by decide +kernel,by decide +kernel⟩
theorem wU (F:Fun K "near_lists" "near_lists" uV f fd)(mr:mg "range" = none)(mst:mg "set" = none)(mso:mg "sorted" = none):a7 P w K mg base CX0 1 f fd ["web"] i9:=by
 refine F.ok mU (λvs H Q E h =>?_) (λcdv A outer s H vs Q E hr h =>?_)
 ·obtain ⟨a,b,c,rfl,_⟩:=ff.mp h
  rfl
 obtain ⟨r,m,ts,rfl,W,m0,m1,q⟩:=ff.mp h
 obtain ⟨t,e1,e2⟩:=W.at'
 refine ⟨_,ag (gi (i:=1) ["place"] [none] rfl mU.nd rfl rfl (bB rfl mr (aa (aq au (pv 0) ae (λ_ _=>rfl)) af)) rfl (λ_ _ _ _ _=>aH (i:=0) ndPl rfl (Or.inl rfl)) (λ_ _ _ _ _=>jH) (λ_ _ _ _ _=>cJ af))
  (ag (cf Bh rfl (cM (aB (eQ (w:=w) rfl hr.hd) rfl mso fI (aa (bj (jS (w:=w) rfl hr.hd hr.units) rfl mst PySem.Pv.boot_set (aa (aq au (pv 0) ae (λ_ _=>rfl)) af)) af))) (aH (i:=2) mU.nd rfl (Or.inl rfl))
   (aj (aZ (av jw (aq au (pv 2) ae (λ_ _=>rfl)) (aq au (pv 2) ae (λ_ _=>rfl)) (aJ _))
    (ag (cc (eD Be Bp Bq bL (aq bq (pv 1) (aq au (pv 2) ae (λ_ _=>rfl)) (λ_ _=>rfl)) (aa (aq au (pv 2) ae (λ_ _=>rfl)) af)))
    (aj (cc (eD Be Bp Bq bL (aq bq (pv 1) (aq au (pv 2) ae (λ_ _=>rfl)) (λ_ _=>rfl)) (aa (aq au (pv 2) ae (λ_ _=>rfl)) af))))) aM)))
  (aj (aF (cj ["row"] [none] rfl (cM (pv 1)) rfl (λ_ _ _ _ _=>aH (i:=0) ndRo rfl (Or.inl rfl)) (λ_ _ _ _ _=>jH) (λ_ _ _ _ _=>aB (kD (K:=K)) rfl mso fI (aa (pv 0) af)))))),?_⟩
 let W0:Nat->List V->Hp->Prop:=λi ys H'=>aA H H'/\∃as:List Addr,ys=as.map V.ref/\as.length=i/\as.Nodup/\∀a∈as,H a=none/\H' a=some (.lst [])
 refine ⟨_,rfl,r,_,0,_,rfl,rfl,SqT.of e1,rfl,m,rfl,by lia,by lia,cF (lo:=0) (n:=m.toNat) W0 ⟨aA.refl _,[],rfl,rfl,Fi,λa ha=>by cases ha⟩ (small (by lia)) ?_ ?_⟩
 ·rintro i ys H3 hi hy ⟨s3,as,rfl,la,nd,ha⟩ R1 R0 r1 r0
  refine a9 ⟨(by show 0<=Ao;decide),λp hp=>r1 _ _ ⟨s3.trans (ai hp _),as++[p],by rw[AE];rfl,by rw[Ae,la];rfl,?_,λa m' =>?_⟩⟩
  ·rw[EC]
   refine ⟨nd,C2.mpr ⟨by simp,Fi⟩,λx hx y hy e =>?_⟩
   rw[Ah] at hy
   subst hy;subst e
   rw[(ha x hx).2] at hp;cases hp
  ·rcases As.mp m' with z | z
   ·exact ⟨(ha a z).1,(ai hp _) _ _ (ha a z).2⟩
   ·rw[Ah] at z
    subst z
    refine ⟨?_,ah⟩
    cases e:H a with
    | none=>rfl
    | some o=>rw[s3 _ _ e] at hp;cases hp
 rintro ys H3 hy ⟨s3,as,rfl,la,nd,ha⟩ l hl
 have s1:=s3.trans (ai hl (.lst (as.map V.ref)))
 have nl:l∉as:=λz=>by rw[(ha l z).2] at hl;cases hl
 have ha1:∀a∈as,upd H3 l (.lst (as.map V.ref)) a=some (.lst []):=λa z=>(ai hl _) _ _ (ha a z).2
 have hl1:upd H3 l (.lst (as.map V.ref)) l=some (.lst (as.map V.ref)):=ah
 generalize upd H3 l (.lst (as.map V.ref))=H1 at s1 ha1 hl1
 have tsl:=W.len
 refine ⟨_,rfl,r,_,1,_,rfl,rfl,SqT.of (s1 _ _ e1),rfl,t,ts,rfl,.inr (SqT.of (s1 _ _ e2)),λu hu=>SqT.of (s1 _ _ (W.tup u hu)),by lia,λa us hna mu ndu cov hlu =>?_⟩
 have sa:=ai hna (gm w a (us.map λt =>.ref t.1))
 refine ⟨a,us,rfl,ah,λu hu=>⟨SqT.of (sa _ _ (s1 _ _ (W.tup u (mu u hu)))),λz =>?_⟩,by lia,λl2 out hl2 pm ps =>?_⟩
 ·obtain ⟨x,y,e,_⟩:=W.pr u (mu u hu)
  rw[z] at e;cases e
 have s2':=sa.trans (ai hl2 (.lst (out.map λt =>.ref t.1)))
 have s2:=s1.trans s2'
 have nl2:l2∉as:=λz=>by rw[sa _ _ (ha1 l2 z)] at hl2;cases hl2
 have h2l2:upd (upd H1 a (gm w a (us.map λt =>.ref t.1))) l2 (.lst (out.map λt =>.ref t.1)) l2=some (.lst (out.map λt =>.ref t.1)):=ah
 generalize upd (upd H1 a (gm w a (us.map λt =>.ref t.1))) l2 (.lst (out.map λt =>.ref t.1))=H2 at s2 s2' h2l2
 have old:∀{b:Addr} {o:HO},H b=some o->b∉as:=λ{b o} e z=>by rw[(ha b z).1] at e;cases e
 let W1:Nat->St->Hp->Prop:=λi σ H'=>(∃c,σ=[some (.ref r),some (.ref l),c])/\∃vs,Rows H2 H' as vs/\yQ vs m.toNat ((out.take i).map (·.2))
 refine ⟨l2,rfl,⟨_,SqL.of h2l2⟩,gF (xs:=out.map λu =>.ref u.1) W1 ⟨⟨_,rfl⟩,AX m.toNat [],⟨by rw[Di,la],λj b v eb ev =>?_,λb u _ e=>e⟩,Di ..,λj v ev =>?_⟩ (λi σ H' _ z =>?_) ?_ ?_⟩
 ·rw[Ek] at ev
  split at ev
  ·cases ev
   exact s2' _ _ (ha1 b (Aj eb))
  ·cases ev
 ·rw[Ek] at ev
  split at ev
  ·cases ev;rfl
  ·cases ev
 ·obtain ⟨_,vs,R,_⟩:=z
  exact SqL.of (R.stay l2 _ nl2 h2l2)
 ·rintro i x σ H' hx ⟨⟨c,rfl⟩,vs,R,lv,RO⟩
  obtain ⟨u,eu,rfl⟩:=item hx
  have mts:=mu u (pm.mem_iff.mp (Aj eu))
  obtain ⟨x,y,e3,x0,xy,ym⟩:=W.pr u mts
  have hu0:=W.tup u mts
  have hu':H' u.1=some (.tup [.int x,.int y]):=by
   rw[e3] at hu0
   exact R.stay _ _ (old hu0) (s2 _ _ hu0)
  have tk:(out.take (i+1)).map (·.2)=(out.take i).map (·.2)++[[x,y]]:=by rw[take_snoc (f:=λu:Addr×List Int=>u.2) eu,e3]
  obtain ⟨xn,rfl⟩:∃n:Nat,x=n:=⟨x.toNat,by lia⟩
  obtain ⟨yn,rfl⟩:∃n:Nat,y=n:=⟨y.toNat,by lia⟩
  have hlst:=R.stay l _ nl (s2' _ _ hl1)
  have axn:as[xn]? = some as[xn]:=Ab (by lia)
  have ayn:as[yn]? = some as[yn]:=Ab (by lia)
  have vxn:vs[xn]? = some vs[xn]:=Ab (by lia)
  have vyn:vs[yn]? = some vs[yn]:=Ab (by lia)
  have at1:atI (as.map V.ref) (xn:Int)=some (.ref as[xn]):=cN (by rw[Aw,axn];rfl)
  have at2:atI (as.map V.ref) (yn:Int)=some (.ref as[yn]):=cN (by rw[Aw,ayn];rfl)
  have ll:∀(j:Nat) v,vs[j]? = some v->v.length<=200:=λj v ev=>by
   rw[RO j v ev]
   refine A4 (qK _ _) ?_
   rw[z4,Bf]
   have:=pm.length_eq
   lia
  refine ⟨_,rfl,u.1,_,0,_,rfl,rfl,SqT.of hu',rfl,_,rfl,u.1,_,1,_,rfl,rfl,SqT.of hu',rfl,rfl,_,rfl,?_⟩
  by_cases hxy:xn=yn
  ·subst hxy
   refine zx rfl ⟨⟨_,rfl⟩,vs,R,lv,λj v ev =>?_⟩
   have nil:nb1 [(xn:Int),(xn:Int)] j=[]:=by unfold nb1;simp
   rw[tk,oB,nil,AU]
   exact RO j v ev
  ·have hd:decide (V.int (xn:Int)=V.int (yn:Int))=false:=decide_eq_false λz=>hxy (by injection z with z;lia)
   rw[hd]
   have rowx:=R.row xn _ _ axn vxn
   have R1:=R.push nd axn vxn (yn:Int)
   have vyn':(vs.set xn (vs[xn]++[(yn:Int)]))[yn]? = some vs[yn]:=by rw[CL hxy];exact vyn
   have rowy:=R1.row yn _ _ ayn vyn'
   have R2:=R1.push nd ayn vyn' (xn:Int)
   have hu2:=R1.stay _ _ (old hu0) (s2 _ _ hu0)
   rw[e3] at hu2
   have hlst2:=R1.stay l _ nl (s2' _ _ hl1)
   refine a9 ⟨_,rfl,_,rfl,u.1,_,0,_,rfl,rfl,SqT.of hu',rfl,l,_,(xn:Int),_,rfl,rfl,SqL.of hlst,at1,.inl ⟨rfl,_,SqL.of rowx⟩,_,rfl,u.1,_,1,_,rfl,rfl,SqT.of hu',rfl,as[xn],_,_,rfl,rfl,rowx,(by rw[z4];exact fB (by have:=ll _ _ vxn;lia)),?_⟩
   refine ⟨_,rfl,_,rfl,u.1,_,1,_,rfl,rfl,SqT.of hu2,rfl,l,_,(yn:Int),_,rfl,rfl,SqL.of hlst2,at2,.inl ⟨rfl,_,SqL.of rowy⟩,_,rfl,u.1,_,0,_,rfl,rfl,SqT.of hu2,rfl,as[yn],_,_,rfl,rfl,rowy,(by rw[z4];exact fB (by have:=ll _ _ vyn;lia)),?_⟩
   refine ⟨⟨_,rfl⟩,_,R2,by rw[C6,C6];exact lv,λj v ev =>?_⟩
   rw[tk,oB]
   by_cases jy:yn=j
   ·subst jy
    rw[Ct (by rw[C6];lia)] at ev
    cases ev
    have e4:nb1 [(xn:Int),(yn:Int)] yn=[(xn:Int)]:=by
     show (if (xn:Int)=yn then [] else if (xn:Int)=yn then [(yn:Int)] else if (yn:Int)=yn then [(xn:Int)] else [])=_
     rw[if_neg (by lia),if_neg (by lia),if_pos rfl]
    rw[e4, <- RO yn _ vyn]
   ·rw[CL jy] at ev
    by_cases jx:xn=j
    ·subst jx
     rw[Ct (by lia)] at ev
     cases ev
     have e4:nb1 [(xn:Int),(yn:Int)] xn=[(yn:Int)]:=by
      show (if (xn:Int)=yn then [] else if (xn:Int)=xn then [(yn:Int)] else if (yn:Int)=xn then [(xn:Int)] else [])=_
      rw[if_neg (by lia),if_pos rfl]
     rw[e4, <- RO xn _ vxn]
    ·rw[CL jx] at ev
     have e4:nb1 [(xn:Int),(yn:Int)] j=[]:=by
      show (if (xn:Int)=yn then [] else if (xn:Int)=j then [(yn:Int)] else if (yn:Int)=j then [(xn:Int)] else [])=_
      rw[if_neg (by lia),if_neg (by lia),if_neg (by lia)]
     rw[e4,AU]
     exact RO j v ev
 ·rintro σ H' ⟨⟨c,rfl⟩,vs,R,lv,RO⟩
  have hlst:=R.stay l _ nl (s2' _ _ hl1)
  rw[z4,AY (Ag _)] at RO
  have sH':aA H H':=λb o e=>R.stay b o (old e) (s2 _ _ e)
  have kns:(out.map (·.2)).Nodup:=((pm.map (·.2)).nodup_iff).mpr ndu
  have mns:∀x,x∈out.map (·.2)↔x∈ts.map (·.2):=λx=>by
   rw[(pm.map (·.2)).mem_iff]
   constructor
   ·intro hx
    obtain ⟨u,hu,rfl⟩:=Bc.mp hx
    exact Bc.mpr ⟨u,mu u hu,rfl⟩
   ·intro hx
    obtain ⟨u,hu,rfl⟩:=Bc.mp hx
    exact cov u hu
  have pns:∀p∈out.map (·.2),∃a b:Int,p=[a,b]/\a<=b:=λp hp=>by
   obtain ⟨u,hu,rfl⟩:=Bc.mp ((mns p).mp hp)
   obtain ⟨a,b,e,_,ab,_⟩:=W.pr u hu
   exact ⟨a,b,e,ab⟩
  have nbm:∀k x,x∈nbs (out.map (·.2)) k↔x∈nbs (ts.map (·.2)) k:=λk x=>by
   rw[i8,i8]
   exact ⟨λ⟨p,hp,z⟩=>⟨p,(mns p).mp hp,z⟩,λ⟨p,hp,z⟩=>⟨p,(mns p).mpr hp,z⟩⟩
  let W2:Nat->List V->Hp->Prop:=λi ys H5=>aA H' H5/\∃os:List (Addr×List Int),ys=(os.map λu=>V.ref u.1)/\os.length=i/\(∀u∈os,H5 u.1=some (.lst (u.2.map V.int)))/\∀(j:Nat) u v,os[j]? = some u->vs[j]? = some v->u.2.Perm v/\u.2.Pairwise (· <= ·)
  refine ⟨_,rfl,l,rfl,⟨_,SqL.of hlst⟩,cw (xs:=as.map V.ref) W2 ⟨aA.refl _,[],rfl,rfl,λu hu=>(by cases hu),λj u v eu=>by simp at eu⟩ (by rw[z4];exact small (by lia)) (λi ys H5 _ z=>SqL.of (z.1 _ _ hlst)) ?_ ?_⟩
  ·rintro i x ys H5 hx hy ⟨s5,os,rfl,lo,ho,po⟩ R1 R0 r1 r0
   rw[Aw] at hx
   cases ea:as[i]? with
   | none=>rw[ea] at hx;cases hx
   | some a5 =>
    rw[ea] at hx
    cases hx
    have hi:i<as.length:=(Af.mp ea).1
    have ev:vs[i]? = some vs[i]:=Ab (by lia)
    have rowa:=s5 _ _ (R.row i _ _ ea ev)
    refine a9 ⟨_,rfl,a5,vs[i],rfl,.inl (SqL.of rowa),λl5 o5 hl5 pm5 ps5=>r1 _ _ ⟨s5.trans (ai hl5 _),os++[(l5,o5)],by rw[AE];rfl,by rw[Ae,lo];rfl,λu hu =>?_,λj u v eu ev' =>?_⟩⟩
    ·rcases As.mp hu with z | z
     ·exact (ai hl5 _) _ _ (ho u z)
     ·rw[Ah] at z;subst z;exact ah
    ·by_cases hj:j<os.length
     ·rw[AW hj] at eu
      exact po j u v eu ev'
     ·have hj2:j=i:=by
       have:=(Af.mp eu).1
       rw[Ae,BH] at this
       lia
      subst hj2
      rw[A0 (by lia),show j-os.length=0 by lia] at eu
      cases eu
      rw[ev] at ev';cases ev'
      exact ⟨pm5,ps5⟩
  ·rintro ys H5 hy ⟨s5,os,rfl,lo,ho,po⟩ l5 hl5
   rw[z4] at lo
   have s6:=ai hl5 (.lst (os.map λu=>V.ref u.1))
   refine q l5 _ os (sH'.trans (s5.trans s6)) ah (by lia) (λu hu=>s6 _ _ (ho u hu)) λj u eu =>?_
   have hj:j<os.length:=(Af.mp eu).1
   have ev:vs[j]? = some vs[j]:=Ab (by lia)
   obtain ⟨p1,p2⟩:=po j u _ eu ev
   have e5:=RO j _ ev
   rw[e5] at p1
   refine ⟨j2 p2 (p1.nodup_iff.mpr (lO kns pns)),λx =>?_⟩
   rw[p1.mem_iff]
   exact nbm _ _
end
def Adj (ns:List (List Int))(u v:Int):Prop:=v∈nbs ns u
def Ok (m:Nat)(ns:List (List Int)):Prop:=∀p∈ns,∃a b:Int,p=[a,b]/\0<=a/\a<=b/\b<m
theorem qL {m:Nat}{ns:List (List Int)}(O:Ok m ns){u v:Int}:Adj ns u v↔∃a b:Int,[a,b]∈ns/\a≠b/\((a=u/\v=b)\/(b=u/\v=a)):=by
 unfold Adj
 rw[i8]
 constructor
 ·rintro ⟨p,hp,h⟩
  obtain ⟨a,b,rfl,_⟩:=O p hp
  exact ⟨a,b,hp,mS.mp h⟩
 ·rintro ⟨a,b,hp,h⟩
  exact ⟨[a,b],hp,mS.mpr h⟩
theorem wV {m:Nat}{ns:List (List Int)}(O:Ok m ns){u v:Int}(h:Adj ns u v):(0<=u/\u<m)/\0<=v/\v<m:=by
 rw[qL O] at h
 obtain ⟨a,b,hp,ne,h⟩:=h
 obtain ⟨a',b',e,h1,h2,h3⟩:=O _ hp
 injection e with e1 e2
 injection e2 with e2 _
 subst e1;subst e2
 rcases h with ⟨h4,h5⟩ | ⟨h4,h5⟩ <;> subst h4 <;> subst h5 <;> omega
def rgI (m:Nat):List Int:=(Bv m).map λi:Nat=>(i:Int)
theorem wW {m:Nat}{v:Int}:v∈rgI m↔0<=v/\v<m:=by
 unfold rgI
 rw[Bc]
 constructor
 ·rintro ⟨i,hi,rfl⟩
  rw[BA] at hi
  lia
 ·intro h
  exact ⟨v.toNat,BA.mpr (by lia),by lia⟩
theorem fg {R:List Int}{m:Nat}(nd:R.Nodup)(h:∀v∈R,0<=v/\v<m):R.length<=m:=by
 have:=CF nd (l₂:=rgI m) λv hv=>wW.mpr (h v hv)
 unfold rgI at this
 rw[z4,CW] at this
 exact this
theorem pV {R:List Int}{v:Int}(nd:R.Nodup)(h:v∉R):(R++[v]).Nodup:=by
 rw[EC]
 exact ⟨nd,C2.mpr ⟨by simp,Fi⟩,λx hx y hy e=>h (by rw[Ah] at hy;subst hy;subst e;exact hx)⟩
structure iD (H:Hp)(n:Addr)(m:Nat)(ns:List (List Int))(os:List (Addr×List Int)):Prop where
 at':H n=some (.lst (os.map λu =>.ref u.1))
 len:os.length=m
 row:∀u∈os,H u.1=some (.lst (u.2.map V.int))
 is:∀(j:Nat) u,os[j]? = some u->∀x,x∈u.2↔x∈nbs ns (j:Int)
theorem iD.same {H H':Hp}{n:Addr}{m:Nat}{ns:List (List Int)}{os:List (Addr×List Int)}(h:iD H n m ns os)(s:aA H H'):iD H' n m ns os:=⟨s _ _ h.at',h.len,λu hu=>s _ _ (h.row u hu),h.is⟩
def uZ (H:Hp)(d:Addr):Nat:=match H d with | some (.dK kvs)=>kvs.length | _=>0
def wX (H:Hp)(y:Addr):Nat:=match H y with | some (.lst xs)=>xs.length | _=>0
section
variable  {P:Au}{w:AV}{K:z8}{mg:Str->Option z9}{base:Heap}{f T:Addr}{fd:A3}
def xC:Sp:=λvs H Q _=>∃a b:Int,vs=[.int a,.int b]/\∀t,H t=none->Q (.ref t) (upd H t (.tup ((nrm a b).map V.int)))
theorem zO:aE ["one", "other"] ["one", "other"] (ak zN):=⟨rfl,rfl,rfl,by decide +kernel,rfl,by decide +kernel,by decide +kernel⟩
theorem zP (F:Fun K "tie_of" "tie_of" zN f fd)(mx:mg "max" = none)(mn:mg "min" = none):a7 P w K mg base CX0 1 f fd ["one", "other"] xC:=by
 refine F.ok zO (λvs H Q E h =>?_) (λcdv A outer s H vs Q E hr h =>?_)
 ·obtain ⟨a,b,rfl,_⟩:=h
  rfl
 obtain ⟨a,b,rfl,q⟩:=h
 refine ⟨_,aj (aF (bC (aa (aB (kP rfl) rfl mn iC (aa (pv 0) (aa (pv 1) af))) (aa (aB (fz rfl) rfl mx j1 (aa (pv 0) (aa (pv 1) af))) af)))),?_⟩
 exact ⟨_,rfl,_,rfl,_,_,rfl,_,rfl,_,rfl,_,_,rfl,(by show 2<=Ao;decide),λt ht=>q t ht⟩
abbrev oE:Sp:=λvs H Q _=>∃(r:Addr) (m a b:Int) (ts:List (Addr×List Int)),vs=[.ref r,.int a,.int b]/\Wb H r m ts/\∀H',aA H H'->Q (.int ((ts.map (·.2)).count (nrm a b):Nat)) H'
@[irreducible] def jb:Sp:=oE
theorem fh {vs:List V}{H:Hp}{Q:VK}{E:XK}:jb vs H Q E↔oE vs H Q E:=by
 delta jb
 exact Cp
theorem wY:aE ["web", "one", "other"] ["web", "one", "other"] (ak uW):=⟨rfl,rfl,rfl,by decide +kernel,rfl,by decide +kernel,by decide +kernel⟩
theorem wZ (F:Fun K "tied_times" "tied_times" uW f fd)(cT:Cal P w K mg base 1 "tie_of" ["one", "other"] xC):a7 P w K mg base CX0 2 f fd ["web", "one", "other"] jb:=by
 refine F.ok wY (λvs H Q E h =>?_) (λcdv A outer s H vs Q E hr h =>?_)
 ·obtain ⟨a,b,c,d,e,rfl,_⟩:=fh.mp h
  rfl
 obtain ⟨r,m,a,b,ts,rfl,W,q⟩:=fh.mp h
 obtain ⟨t,e1,e2⟩:=W.at'
 refine ⟨_,aj (aF (uE Fp PySem.F.type_tuple_count (pI (hu8 hr)) (aq au (pv 0) ae (λ_ _=>rfl)) (aa (ay cT hr (by decide) rfl (aa (pv 1) (aa (pv 2) af))) af))),?_⟩
 refine ⟨_,rfl,r,_,1,_,rfl,rfl,SqT.of e1,rfl,⟨_,_,rfl,e2⟩,_,rfl,_,rfl,a,b,rfl,λx hx =>?_⟩
 have s1:=ai hx (.tup ((nrm a b).map V.int))
 exact ⟨t,x,ts,nrm a b,rfl,rfl,s1 _ _ e2,λu hu=>s1 _ _ (W.tup u hu),ah,q _ s1⟩
end
inductive Wk (R:Int->Int->Prop)(s:Int):Nat->Int->Prop
 | z:Wk R s 0 s
 | st {n:Nat} {p o:Int}:Wk R s n p->R p o->Wk R s (n+1) o
def Dst (R:Int->Int->Prop)(s:Int)(n:Nat)(v:Int):Prop:=Wk R s n v/\∀k,k<n->¬ Wk R s k v
theorem Dst.uniq {R:Int->Int->Prop}{s:Int}{a b:Nat}{v:Int}(h1:Dst R s a v)(h2:Dst R s b v):a=b:=by
 rcases Nat.lt_trichotomy a b with h | h | h
 ·exact absurd h1.1 (h2.2 a h)
 ·exact h
 ·exact absurd h2.1 (h1.2 b h)
theorem Wk.zero {R:Int->Int->Prop}{s v:Int}(h:Wk R s 0 v):v=s:=by cases h;rfl
def stp (ns:List (List Int))(s g p o:Int):Prop:=Adj ns p o/\(p≠s\/o≠g)
theorem Wk.rng {m:Nat}{ns:List (List Int)}(O:Ok m ns){s g:Int}(hs:0<=s/\s<m){n:Nat}{v:Int}(h:Wk (stp ns s g) s n v):0<=v/\v<m:=by
 cases h with
 | z=>exact hs
 | st _ r=>exact (wV O r.1).2
def mp (C:List (Int×V)):List (Key×V):=C.map λe=>(Sum.inl e.1,e.2)
theorem mV (v:Int):∀C:List (Int×V),(v∉C.map (·.1)/\bZ (mp C) (Sum.inl v)=none)\/∃x,(v,x)∈C/\bZ (mp C) (Sum.inl v)=some x
 | [] =>.inl ⟨by simp,rfl⟩
 | e :: C=>by
  by_cases h:e.1=v
  ·refine .inr ⟨e.2,by rw[<- h];exact AN,?_⟩
   show bZ ((Sum.inl e.1,e.2) :: mp C) (Sum.inl v)=some e.2
   rw[bJ (by rw[h])]
  ·have en:bZ (mp (e :: C)) (Sum.inl v)=bZ (mp C) (Sum.inl v):=by
    show bZ ((Sum.inl e.1,e.2) :: mp C) (Sum.inl v)=_
    rw[bK (λz=>h (by injection z))]
   rw[en]
   rcases mV v C with ⟨h1,h2⟩ | ⟨x,h1,h2⟩
   ·exact .inl ⟨by rw[AL,AJ];exact λz=>z.elim (λy=>h y.symm) h1,h2⟩
   ·exact .inr ⟨x,AK _ h1,h2⟩
theorem u3 (v:Int)(C:List (Int×V)):(bZ (mp C) (Sum.inl v)).isSome=decide (v∈C.map (·.1)):=by
 rcases mV v C with ⟨h1,h2⟩ | ⟨x,h1,h2⟩
 ·rw[h2,decide_eq_false h1];rfl
 ·rw[h2,decide_eq_true (C8 (f:=(·.1)) h1)];rfl
theorem yR {v:Int}{C:List (Int×V)}(h:v∈C.map (·.1)):∃x,(v,x)∈C/\bZ (mp C) (Sum.inl v)=some x:=by
 rcases mV v C with ⟨h1,_⟩ | z
 ·exact absurd h h1
 ·exact z
theorem yS {v:Int}{C:List (Int×V)}(h:v∉C.map (·.1))(x:V):putK (mp C) (Sum.inl v) x=mp (C++[(v,x)]):=by
 rcases mV v C with ⟨_,h2⟩ | ⟨x,h1,_⟩
 ·rw[uG _ h2];unfold mp;rw[AE];rfl
 ·exact absurd (C8 (f:=(·.1)) h1) h
theorem pW (C:List (Int×V)):(mp C).length=C.length:=z4 _
structure Rnd (ns:List (List Int))(s g:Int)(d:Nat)(C:List (Int×V))(Y F:List Int):Prop where
 nd:(C.map (·.1)).Nodup
 ent:∀e∈C,(e.1=s/\e.2 = .non)\/∃(p:Int) (n:Nat),e.2 = .int p/\Dst (stp ns s g) s n p/\Dst (stp ns s g) s (n+1) e.1/\stp ns s g p e.1
 key:∀v,v∈C.map (·.1)↔(∃n,n<=d/\Wk (stp ns s g) s n v)\/v∈F
 rdy:∀v,v∈Y↔Dst (stp ns s g) s d v
 fur:∀v∈F,Dst (stp ns s g) s (d+1) v
theorem Rnd.start (ns:List (List Int))(s g:Int):Rnd ns s g 0 [(s,.non)] [s] []:=by
 refine ⟨C2.mpr ⟨by simp,Fi⟩,λe he =>?_,λv =>?_,λv =>?_,λv h=>by cases h⟩
 ·rw[Ah] at he;subst he;exact .inl ⟨rfl,rfl⟩
 ·show v∈[s]↔_
  rw[Ah]
  refine ⟨λh =>.inl ⟨0,Ag _,h ▸ .z⟩,λh =>?_⟩
  rcases h with ⟨n,h1,h2⟩ | h
  ·cases Hy.mp h1;exact h2.zero
  ·cases h
 ·rw[Ah]
  exact ⟨λh=>⟨h ▸ .z,λk hk=>absurd hk (EX _)⟩,λh=>h.1.zero⟩
theorem Rnd.add {ns:List (List Int)}{s g:Int}{d:Nat}{C:List (Int×V)}{Y F:List Int}(h:Rnd ns s g d C Y F){p o:Int}(hp:p∈Y)(ha:stp ns s g p o)(hn:o∉C.map (·.1)):Rnd ns s g d (C++[(o,.int p)]) Y (F++[o]):=by
 have dp:=(h.rdy p).mp hp
 have dw:Dst (stp ns s g) s (d+1) o:=⟨.st dp.1 ha,λk hk w=>hn ((h.key o).mpr (.inl ⟨k,Dw hk,w⟩))⟩
 refine ⟨?_,λe he =>?_,λv =>?_,h.rdy,λv hv =>?_⟩
 ·rw[AE];exact pV h.nd hn
 ·rcases As.mp he with z | z
  ·exact h.ent e z
  ·rw[Ah] at z;subst z
   exact .inr ⟨p,d,rfl,dp,dw,ha⟩
 ·rw[AE,As,h.key,As]
  exact or_assoc
 ·rcases As.mp hv with z | z
  ·exact h.fur v z
  ·rw[Ah] at z;subst z;exact dw
theorem Rnd.next {ns:List (List Int)}{s g:Int}{d:Nat}{C:List (Int×V)}{Y F:List Int}(h:Rnd ns s g d C Y F)(cl:∀p∈Y,∀o,stp ns s g p o->o∈C.map (·.1)):Rnd ns s g (d+1) C F []:=by
 have lo:∀v,Wk (stp ns s g) s (d+1) v->v∈C.map (·.1):=λv w=>by
  cases w with
  | st w1 r =>
   rename_i p
   by_cases z:∃k,k<d/\Wk (stp ns s g) s k p
   ·obtain ⟨k,hk,wk⟩:=z
    exact (h.key v).mpr (.inl ⟨k+1,hk,.st wk r⟩)
   ·exact cl p ((h.rdy p).mpr ⟨w1,λk hk wk=>z ⟨k,hk,wk⟩⟩) v r
 refine ⟨h.nd,h.ent,λv=>⟨λhv =>?_,λhv =>?_⟩,λv=>⟨h.fur v,λdv =>?_⟩,λv hv=>by cases hv⟩
 ·rcases (h.key v).mp hv with ⟨n,hn,w⟩ | z
  ·exact .inl ⟨n,DR hn,w⟩
  ·exact .inl ⟨d+1,Ag _,(h.fur v z).1⟩
 ·rcases hv with ⟨n,hn,w⟩ | z
  ·rcases Eh d n with c | c
   ·have:n=d+1:=by lia
    subst this;exact lo v w
   ·exact (h.key v).mpr (.inl ⟨n,c,w⟩)
  ·cases z
 ·rcases (h.key v).mp (lo v dv.1) with ⟨n,hn,w⟩ | z
  ·exact absurd w (dv.2 n (Nat.lt_succ_of_le hn))
  ·exact z
theorem Rnd.stop {ns:List (List Int)}{s g:Int}{d:Nat}{C:List (Int×V)}(h:Rnd ns s g d C [] []){k:Nat}{v:Int}(w:Wk (stp ns s g) s k v):v∈C.map (·.1):=by
 refine (h.key v).mpr (.inl ?_)
 induction w with
 | z=>exact ⟨0,A7 _,.z⟩
 | st w1 r ih =>
  rename_i n p o
  obtain ⟨n,hn,wn⟩:=ih
  by_cases z:∃k,k<d/\Wk (stp ns s g) s k p
  ·obtain ⟨k,hk,wk⟩:=z
   exact ⟨k+1,hk,.st wk r⟩
  ·have:n=d:=by
    rcases Eh n d with c | c
    ·exact absurd ⟨n,c,wn⟩ z
    ·lia
   subst this
   have:=(h.rdy p).mpr ⟨wn,λk hk wk=>z ⟨k,hk,wk⟩⟩
   cases this
theorem Rnd.dst {ns:List (List Int)}{s g:Int}{d:Nat}{C:List (Int×V)}{Y:List Int}(h:Rnd ns s g d C Y []){v:Int}(hv:v∈C.map (·.1)):∃n,n<=d/\Dst (stp ns s g) s n v:=by
 obtain ⟨e,he,rfl⟩:=Bc.mp hv
 rcases h.ent e he with ⟨h1,_⟩ | ⟨p,n,_,_,h3,_⟩
 ·exact ⟨0,A7 _,h1 ▸ .z,λk hk=>absurd hk (EX _)⟩
 ·rcases (h.key e.1).mp hv with ⟨k,hk,w⟩ | z
  ·refine ⟨n+1,?_,h3⟩
   rcases Eh d (n+1) with c | c
   ·exact absurd w (h3.2 k (by lia))
   ·exact c
  ·cases z
structure Trl (ns:List (List Int))(s g:Int)(N:Nat)(Z:List Int):Prop where
 hd:Z[0]? = some g
 dst:∀i x,Z[i]? = some x->i<=N/\Dst (stp ns s g) s (N-i) x
 ch:∀i x y,Z[i]? = some x->Z[i+1]? = some y->stp ns s g y x
theorem Trl.start {ns:List (List Int)}{s g:Int}{N:Nat}(h:Dst (stp ns s g) s N g):Trl ns s g N [g]:=by
 refine ⟨rfl,λi x e =>?_,λi x y _ e=>by simp at e⟩
 cases i with
 | zero=>cases e;exact ⟨A7 _,h⟩
 | succ i=>simp at e
theorem Trl.add {ns:List (List Int)}{s g:Int}{N n:Nat}{W:List Int}{p q:Int}(h:Trl ns s g N (W++[p]))(hn:n+1+W.length=N)(dq:Dst (stp ns s g) s n q)(hs:stp ns s g q p):Trl ns s g N (W++[p]++[q]):=by
 have lz:(W++[p]).length=W.length+1:=by simp
 refine ⟨?_,λi x e =>?_,λi x y e1 e2 =>?_⟩
 ·rw[AW (by lia)];exact h.hd
 ·rcases Eh i (W.length+1) with c | c
  ·rw[AW (by lia)] at e;exact h.dst i x e
  ·rw[A0 (by lia),lz] at e
   have:i-(W.length+1)=0:=by
    rcases DJ (i-(W.length+1)) with z | z
    ·exact z
    ·rw[Bx (by simp;lia)] at e;cases e
   rw[this] at e;cases e
   refine ⟨by lia,?_⟩
   rw[show N-i=n by lia];exact dq
 ·rcases Eh (i+1) (W.length+1) with c | c
  ·rw[AW (by lia)] at e1 e2;exact h.ch i x y e1 e2
  ·rw[A0 (by lia),lz] at e2
   have:i+1-(W.length+1)=0:=by
    rcases DJ (i+1-(W.length+1)) with z | z
    ·exact z
    ·rw[Bx (by simp;lia)] at e2;cases e2
   rw[this] at e2;cases e2
   rw[AW (by lia),A0 (by lia),show i-W.length=0 by lia] at e1
   cases e1;exact hs
def Way (ns:List (List Int))(s g:Int)(N:Nat)(Z:List Int):Prop:=Trl ns s g N Z/\Z.length=N+1
def chn (P:Int->Int->Prop):List Int->Prop
 | a :: b :: t=>P a b/\chn P (b :: t)
 | _=>True
theorem qM {P:Int->Int->Prop}:∀{Z:List Int},(∀(i:Nat) x y,Z[i]? = some x->Z[i+1]? = some y->P x y)->chn P Z
 | [],_=>trivial
 | [_],_=>trivial
 | a :: b :: t,h=>⟨h 0 a b rfl rfl,qM λi x y e1 e2=>h (i+1) x y e1 e2⟩
def Td (ns:List (List Int))(x y:Int):Prop:=nrm x y∈ns
theorem Td.symm {ns:List (List Int)}(x y:Int)(h:Td ns x y):Td ns y x:=by unfold Td at *;rw[gO];exact h
theorem d8 {a b:Int}(h:a<=b):nrm a b=[a,b]:=by
 unfold nrm mnI mxI
 by_cases c:a=b
 ·subst c;simp
 ·rw[if_neg (by lia),if_pos (by lia)]
theorem yT {m:Nat}{ns:List (List Int)}(O:Ok m ns){u v:Int}:Adj ns u v↔u≠v/\Td ns u v:=by
 rw[qL O]
 unfold Td
 constructor
 ·rintro ⟨a,b,hp,ne,h⟩
  obtain ⟨_,_,e,_,ab,_⟩:=O _ hp
  cases e
  rcases h with ⟨rfl,rfl⟩ | ⟨rfl,rfl⟩
  ·exact ⟨ne,by rw[d8 ab];exact hp⟩
  ·exact ⟨B4 ne,by rw[gO,d8 ab];exact hp⟩
 ·rintro ⟨ne,h⟩
  rcases Int.le_total u v with c | c
  ·rw[d8 c] at h;exact ⟨u,v,h,ne,.inl ⟨rfl,rfl⟩⟩
  ·rw[gO,d8 c] at h;exact ⟨v,u,h,B4 ne,.inr ⟨rfl,rfl⟩⟩
structure Ring (m:Nat)(ns:List (List Int))(Z:List Int):Prop where
 ne:Z≠[]
 nd:Z.Nodup
 rng:∀v∈Z,0<=v/\v<m
 ch:chn (Td ns) (Z++Z.take 1)
 two:∀x y,Z=[x,y]->2<=ns.count (nrm x y)
theorem Trl.inj {ns:List (List Int)}{s g:Int}{N:Nat}{Z:List Int}(h:Trl ns s g N Z):Z.Nodup:=by
 refine Dp.mpr λi j hi hj hij e =>?_
 have a:=h.dst i Z[i] (Ab hi)
 have b:=h.dst j Z[j] (Ab hj)
 rw[<- e] at b
 have:=a.2.uniq b.2
 omega
theorem Trl.rng {m:Nat}{ns:List (List Int)}(O:Ok m ns){s g:Int}(hs:0<=s/\s<m){N:Nat}{Z:List Int}(h:Trl ns s g N Z):∀v∈Z,0<=v/\v<m:=λv hv=>by
 obtain ⟨i,e⟩:=Bb.mp hv
 exact (h.dst i v e).2.1.rng O hs
theorem Way.last {ns:List (List Int)}{s g:Int}{N:Nat}{Z:List Int}(h:Way ns s g N Z):Z[N]? = some s:=by
 obtain ⟨x,ex⟩:∃x,Z[N]? = some x:=⟨_,Ab (by have:=h.2;lia)⟩
 have a:=(h.1.dst N x ex).2
 rw[FY] at a
 rw[ex,a.1.zero]
theorem Way.two {ns:List (List Int)}{s g:Int}(ne:s≠g){N:Nat}{Z:List Int}(h:Way ns s g N Z):2<=N:=by
 rcases N with _ | _ | N
 ·have a:=(h.1.dst 0 g h.1.hd).2
  exact absurd a.1.zero.symm ne
 ·have:=h.1.ch 0 g s h.1.hd h.last
  exact absurd this.2 (by simp)
 ·lia
theorem Way.ring {m:Nat}{ns:List (List Int)}(O:Ok m ns){s g:Int}(ne:s≠g)(hs:0<=s/\s<m)(td:Td ns s g){N:Nat}{Z:List Int}(h:Way ns s g N Z):Ring m ns Z:=by
 have h2:=h.two ne
 have lz:=h.2
 refine ⟨λz=>by rw[z] at lz;simp at lz,h.1.inj,h.1.rng O hs,?_,λx y e=>by rw[e] at lz;simp at lz;omega⟩
 ·have t1:Z.take 1=[g]:=by
   have:=h.1.hd
   cases Z with
   | nil=>cases this
   | cons a t=>cases this;rfl
  rw[t1]
  refine qM λi x y e1 e2 =>?_
  rcases Eh (i+1) Z.length with c | c
  ·rw[AW (by omega)] at e1 e2
   exact Td.symm _ _ ((yT O).mp (h.1.ch i x y e1 e2).1).2
  ·rw[A0 (by omega)] at e2
   have:i+1-Z.length=0:=by
    rcases DJ (i+1-Z.length) with z | z
    ·exact z
    ·rw[Bx (by simp;omega)] at e2;cases e2
   rw[this] at e2;cases e2
   rw[AW (by omega),show i=N by omega,h.last] at e1
   cases e1;exact td
def rot (ns:List Int)(k:Nat):List Int:=ns.drop k++ns.take k
def turn (ns:List Int):List Int:=ns.take 1++(ns.drop 1).reverse
def gu (a b:List Int):List Int:=if HT.lexLt b a=true then b else a
def frm (ns:List Int)(M:Int):List Int:=gu (rot ns (ns.idxOf M)) (turn (rot ns (ns.idxOf M)))
theorem u5 (xs:List V){k:Nat}(h:k<=xs.length):dz xs none (some (k:Int))=xs.take k:=by
 unfold dz HT.sIx
 simp only[show ¬ ((k:Int)<0) by lia,if_false,Dt,FV,ED,show min k xs.length=k by lia]
theorem pX (xs:List V){k:Nat}(h:k<=xs.length):dz xs (some (k:Int)) none=xs.drop k:=by
 unfold dz HT.sIx
 simp only[show ¬ ((k:Int)<0) by lia,if_false,Dt,show min k xs.length=k by lia]
 exact AY (by rw[Bk];exact Ag _)
abbrev qN:Sp:=λvs H Q _=>∃(p:Addr) (ns:List Int),vs=[.ref p]/\H p=some (.tup (ns.map V.int))/\ns≠[]/\ns.length<=500/\∀(z:Addr) (H':Hp) (M:Int),aA H H'->M∈ns->(∀b∈ns,M<=b)->H' z=some (.tup ((frm ns M).map V.int))->Q (.ref z) H'
@[irreducible] def j3:Sp:=qN
theorem cx {vs:List V}{H:Hp}{Q:VK}{E:XK}:j3 vs H Q E↔qN vs H Q E:=by
 delta j3
 exact Cp
section
variable  {P:Au}{w:AV}{K:z8}{mg:Str->Option z9}{base:Heap}{f T:Addr}{fd:A3}
theorem gx:aE ["ring", "at", "onward"] ["ring"] (ak iz):=⟨rfl,rfl,rfl,by decide +kernel,rfl,by decide +kernel,by decide +kernel⟩
theorem pZ (F:Fun K "ring_form" "ring_form" iz f fd)(B:Blt mg):a7 P w K mg base CX0 1 f fd ["ring"] j3:=by
 refine F.ok gx (λvs H Q E h =>?_) (λcdv A outer s H vs Q E hr h =>?_)
 ·obtain ⟨_,_,rfl,_⟩:=cx.mp h
  rfl
 obtain ⟨p,ns,rfl,ep,ne,l5,q⟩:=cx.mp h
 refine ⟨_,(@ag _ _ _ _ _ (@ax _ _ 1 _ _ _ _ gx.nd rfl (Or.inl rfl) (uE Fu PySem.F.type_tuple_index sJ (pv 0) (@aa _ _ _ _ _ (aB (pP rfl) rfl B.b_min iC (@aa _ _ _ _ _ (pv 0) af rfl)) af rfl)) rfl (by first | exact .inl rfl | exact .inr rfl | assumption))
  (@ag _ _ _ _ _ (@ax _ _ 2 _ _ _ _ gx.nd rfl (Or.inl rfl) (@az _ _ _ _ _ _ _ _ oz (bj aY rfl B.b_tuple cn (@aa _ _ _ _ _ (cV i7 (pv 0) (dP (pv 1)) dO) af rfl)) (bj aY rfl B.b_tuple cn (@aa _ _ _ _ _ (cV i7 (pv 0) dO (dP (pv 1))) af rfl))) rfl (by first | exact .inl rfl | exact .inr rfl | assumption))
  (@aj _ _ _ (@aF _ _ _ _ (aB (pO rfl (hu8 hr)) rfl B.b_min iC (@aa _ _ _ _ _ (pv 2) (@aa _ _ _ _ _ (@az _ _ _ _ _ _ _ _ oz (cV i7 (pv 2) dO (dP ae)) (sI hr.hd rfl B.b_tuple rfl B.b_reversed (cV i7 (pv 2) (dP ae) dO))) af rfl) rfl)))))),?_⟩
 have lm:(ns.map V.int).length=ns.length:=z4 _
 refine ⟨_,rfl,⟨p,_,rfl,ep⟩,_,rfl,p,ns,rfl,SqT.of ep,ne,λM hM mn=>⟨p,ns,M,rfl,rfl,ep,hM,?_⟩⟩
 have hk:ns.idxOf M<=ns.length:=DC (Dx.mpr hM)
 have q:=λz H'=>q z H' M
 unfold frm rot at q
 generalize ns.idxOf M=k at hk q
 refine ⟨_,rfl,_,rfl,_,rfl,p,_,rfl,ep,λp1 H1 s1 e1=>⟨p1,_,rfl,.inr ⟨SqT.of e1,?_⟩⟩⟩
 rw[pX _ (by rw[lm];exact hk), <- ES] at e1
 refine ⟨_,rfl,_,rfl,_,rfl,p,_,rfl,s1 _ _ ep,λp2 H2 s2 e2=>⟨p2,_,rfl,.inr ⟨SqT.of e2,?_⟩⟩⟩
 rw[u5 _ (by rw[lm];exact hk), <- ER] at e2
 refine ⟨p1,p2,_,_,rfl,rfl,s2 _ _ e1,e2,by rw[z4,z4,Bk,Bf];exact small (by lia),λp3 H3 s3 e3 =>?_⟩
 rw[<- AE] at e3
 have lo:(ns.drop k++ns.take k).length=ns.length:=by rw[Ae,Bk,Bf];lia
 generalize ns.drop k++ns.take k=os at e3 lo q
 have lom:(os.map V.int).length=os.length:=z4 _
 have po:=Cy.mpr ne
 refine ⟨_,rfl,_,rfl,1,rfl,p3,_,rfl,e3,λp4 H4 s4 e4 =>?_⟩
 rw[show dz (os.map V.int) none (some 1)=(os.map V.int).take 1 from u5 (k:=1) _ (by rw[lom];lia), <- ER] at e4
 refine ⟨_,rfl,1,rfl,p3,_,rfl,s4 _ _ e3,λp5 H5 s5 e5 =>?_⟩
 rw[show dz (os.map V.int) (some 1) none=(os.map V.int).drop 1 from pX (k:=1) _ (by rw[lom];lia), <- ES] at e5
 refine ⟨p5,_,rfl,SqT.of e5,by rw[z4,Bk];lia,λp6 hp6 =>?_⟩
 rw[<- List.map_reverse]
 have g6:=ai hp6 (.tup ((os.drop 1).reverse.map V.int))
 have ep6:upd H5 p6 (.tup ((os.drop 1).reverse.map V.int)) p6=some (.tup ((os.drop 1).reverse.map V.int)):=ah
 generalize upd H5 p6 (.tup ((os.drop 1).reverse.map V.int))=H6 at g6 ep6
 refine ⟨p4,p6,_,_,rfl,rfl,g6 _ _ (s5 _ _ e4),ep6,by rw[z4,z4,Bf,C7,Bk];exact small (by lia),λp7 H7 s7 e7 =>?_⟩
 rw[<- AE] at e7
 have s47:=s4.trans (s5.trans (g6.trans s7))
 have sA:=s1.trans (s2.trans (s3.trans s47))
 refine ⟨p3,p7,os,_,rfl,SqT.of (s47 _ _ e3),SqT.of e7,λz=>q p7 H7 sA hM mn ?_,λz=>q p3 H7 sA hM mn ?_⟩
 ·rw[show gu os (turn os)=turn os by unfold gu;exact if_pos z]
  exact e7
 ·rw[show gu os (turn os)=os by unfold gu;exact if_neg (by show ¬ HT.lexLt (turn os) os=true;unfold turn;rw[z];exact Ak)]
  exact s47 _ _ e3
end
def yl (σ:St)(H:Hp):Nat:=match σ with
 | _ :: _ :: _ :: _ :: some (.ref y) :: _=>match H y with
  | some (.lst (_ :: _))=>1
  | _=>0
 | _=>0
theorem xD {c0 c1 c2 c3:Option V}{y:Addr}{r:St}{H:Hp}{xs:List V}(e:H y=some (.lst xs)):yl (c0 :: c1 :: c2 :: c3 :: some (.ref y) :: r) H=if xs=[] then 0 else 1:=by
 unfold yl
 dsimp only
 rw[e]
 cases xs with
 | nil=>rfl
 | cons a t=>rfl
theorem cK {n:Nat}(h:n<=5000):n<Ao:=CG h (by decide)
theorem cy {n:Nat}(h:n<=5000):n<=Ao:=DC (cK h)
theorem oF {ms:List Int}{i:Nat}{x:V}(e:(ms.map V.int)[i]? = some x):∃n,ms[i]? = some n/\x = .int n:=by
 rw[Aw] at e
 cases z:ms[i]? with
 | none=>rw[z] at e;cases e
 | some n=>rw[z] at e;exact ⟨n,rfl,(AI e).symm⟩
theorem qO {H:Hp}{d:Addr}{kvs:List (Key×V)}(e:H d=some (.dK kvs)):uZ H d=kvs.length:=by unfold uZ;rw[e]
theorem qP {H:Hp}{d:Addr}{xs:List V}(e:H d=some (.lst xs)):wX H d=xs.length:=by unfold wX;rw[e]
theorem fJ {l:List Int}{i:Nat}{x v:Int}(e:l[i]? = some x)(h:v∈l.take (i+1)):v∈l.take i\/v=x:=by
 rw[Bm,e] at h
 rcases As.mp h with z | z
 ·exact .inl z
 ·exact .inr (by simpa using z)
abbrev u6:Sp:=λvs H Q _=>∃(n:Addr) (m:Nat) (ns:List (List Int)) (os:List (Addr×List Int)) (s g:Int),vs=[.ref n,.int s,.int g]/\iD H n m ns os/\Ok m ns/\m<=400/\(0<=s/\s<m)/\s≠g/\(∀H',aA H H'->(∀k,¬ Wk (stp ns s g) s k g)->Q .non H')/\∀(z:Addr) (H':Hp) (N:Nat) (Z:List Int),aA H H'->H' z=some (.tup (Z.map V.int))->Way ns s g N Z->Q (.ref z) H'
@[irreducible] def qQ:Sp:=u6
theorem iE {vs:List V}{H:Hp}{Q:VK}{E:XK}:qQ vs H Q E↔u6 vs H Q E:=by
 delta qQ
 exact Cp
section
variable  {P:Au}{w:AV}{K:z8}{mg:Str->Option z9}{base:Heap}{f T:Addr}{fd:A3}
theorem bz:aE ["near", "start", "goal", "came", "ready", "further", "place", "other", "way"] ["near", "start", "goal"] (ak dF):=⟨rfl,rfl,rfl,by decide +kernel,rfl,by decide +kernel,by decide +kernel⟩
theorem p8 (F:Fun K "way_about" "way_about" dF f fd)(B:Blt mg):a7 P w K mg base CX0 1 f fd ["near", "start", "goal"] qQ:=by
 refine F.ok bz (λvs H Q E h =>?_) (λcdv A outer s H vs Q E hr h =>?_)
 ·obtain ⟨_,_,_,_,_,_,rfl,_⟩:=iE.mp h
  rfl
 obtain ⟨n,m,ns,os,sa,gb,rfl,N,O,m4,hs,nsg,q0,q1⟩:=iE.mp h
 have hu:(iU CX0 P w K mg base ["near", "start", "goal", "came", "ready", "further", "place", "other", "way"] "way_about" (ak dF) f cdv A outer s H E).nox.A.units+1<cLine:=nJ hr
 have kl:∀{d:Nat} {C:List (Int×V)} {Y F:List Int},Rnd ns sa gb d C Y F->C.length<=m:=λ{d C Y F} I=>by
  have:=fg I.nd (m:=m) λv hv=>by
   rcases (I.key v).mp hv with ⟨k,_,wk⟩ | z
   ·exact wk.rng O hs
   ·exact (I.fur v z).1.rng O hs
  rwa [z4] at this
 refine sP ((ba dF).drop 3) (λσ H'=>∃(c5 c6 c7:Option V) (dd y:Addr) (d:Nat) (C:List (Int×V)) (Y:List Int),σ=[some (.ref n),some (.int sa),some (.int gb),some (.ref dd),some (.ref y),c5,c6,c7,none]/\H dd=none/\aA H H'/\H' dd=some (.dK (mp C))/\H' y=some (.lst (Y.map V.int))/\Rnd ns sa gb d C Y []/\(Y=[]\/gb∈C.map (·.1))) ?hT λtT pT mT =>?gT
 case hT =>
  refine ⟨_,(@ag _ _ _ _ _ (@aZ _ _ _ _ _ _ _ _ (dM (iw hu (pv 2) (pv 3))) (@aj _ _ _ (@aF _ _ _ _ dJ)) aM)
  (@ag _ _ _ _ _ (@ax _ _ 8 _ _ _ _ bz.nd rfl (Or.inl rfl) (@cJ _ _ _ _ af) rfl (by first | exact .inl rfl | exact .inr rfl | assumption))
  (@ag _ _ _ _ _ (@ax _ _ 6 _ _ _ _ bz.nd rfl (Or.inl rfl) (pv 2) rfl (by first | exact .inl rfl | exact .inr rfl | assumption))
  (@ag _ _ _ _ _ (eI Bh (av mi (pv 6) dJ (aJ _))
   (@ag _ _ _ _ _ (cc (eD Be Bp Bq bL (pv 8) (@aa _ _ _ _ _ (pv 6) af rfl)))
   (@aj _ _ _ (@ax _ _ 6 _ _ _ _ bz.nd rfl (Or.inl rfl) (gQ hu (pv 3) (pv 6) (λ_ _=>rfl)) rfl (by first | exact .inl rfl | exact .inr rfl | assumption)))))
  (@aj _ _ _ (@aF _ _ _ _ (bj aY rfl B.b_tuple cn (@aa _ _ _ _ _ (pv 8) af rfl)))))))),?_⟩
  rintro σ H' ⟨c5,c6,c7,dd,y,d,C,Y,rfl,hdd,s',ed,ey,I,h2⟩
  refine ⟨_,rfl,_,rfl,dd,_,rfl,gn.k (k:=Sum.inl gb) ed,_,rfl,?_⟩
  rw[u3]
  by_cases hg:gb∈C.map (·.1)
  ·rw[decide_eq_true hg]
   refine aX ⟨(by show 0<=Ao;decide),λwy hwy =>?_⟩
   have g2:=ai hwy (.lst [])
   have ew:upd H' wy (.lst []) wy=some (.lst (([]:List Int).map V.int)):=ah
   have ed2:=g2 _ _ ed
   have hw0:=s'.free hwy
   have ndw:dd≠wy:=aN ed hwy
   have s2:=s'.trans g2
   generalize upd H' wy (.lst [])=H2 at g2 ew ed2 s2
   obtain ⟨NN,hN,dN⟩:=I.dst hg
   refine ⟨_,rfl,?_⟩
   refine eJ (λσ H'=>∃(x:V) (W Z:List Int),σ=[some (.ref n),some (.int sa),some (.int gb),some (.ref dd),some (.ref y),c5,some x,c7,some (.ref wy)]/\aA H H'/\H' dd=some (.dK (mp C))/\H' wy=some (.lst (W.map V.int))/\Trl ns sa gb NN Z/\((∃(p:Int) (k:Nat),x = .int p/\Z=W++[p]/\Dst (stp ns sa gb) sa k p/\k+W.length=NN)\/(x = .non/\Z=W/\Z.length=NN+1)))
    (λσ H'=>NN+1-wX H' wy) ⟨_,[],[gb],rfl,s2,ed2,ew,Trl.start dN,.inl ⟨gb,NN,rfl,rfl,dN,rfl⟩⟩ ?_ ?_
   ·rintro σ H3 ⟨x,W,Z,rfl,s3,ed3,ew3,tr,cs⟩
    have yw:=qP ew3
    rw[z4] at yw
    rcases cs with ⟨p,k,rfl,rfl,dp,kW⟩ | ⟨rfl,rfl,lZ⟩
    ·refine ⟨_,rfl,rfl,_,rfl,a9 ?_⟩
     refine ⟨_,rfl,.inl ⟨rfl,_,SqL.of ew3⟩,_,rfl,wy,_,_,rfl,rfl,ew3,by rw[z4];exact fB (by have:=fg tr.inj (tr.rng O hs);rw[Ae] at this;lia),?_⟩
     have ew4:upd H3 wy (.lst (W.map V.int++[.int p])) wy=some (.lst ((W++[p]).map V.int)):=by rw[ah,AE];rfl
     have ed4:upd H3 wy (.lst (W.map V.int++[.int p])) dd=some (.dK (mp C)):=by rw[aD ndw];exact ed3
     have s4:=aA.bQ s3 hw0 (.lst (W.map V.int++[.int p]))
     generalize upd H3 wy (.lst (W.map V.int++[.int p]))=H4 at ew4 ed4 s4
     have y4:=qP ew4
     rw[z4,Ae] at y4
     have y4':wX H4 wy=W.length+1:=y4
     obtain ⟨x,hx,ex⟩:=yR ((I.key p).mpr (.inl ⟨k,by lia,dp.1⟩))
     refine ⟨_,rfl,_,rfl,dd,x,rfl,?_,⟨x,W++[p],?_⟩,by rw[yw,y4'];lia⟩
     ·have:=gn.k (k:=Sum.inl p) ed4
      rw[ex] at this
      exact this
     rcases I.ent _ hx with ⟨e1,e2⟩ | ⟨p',k',e2,d1,d2,st⟩
     ·have k0:k=0:=dp.uniq (b:=0) (by rw[show p=sa from e1];exact ⟨.z,λj hj=>absurd hj (EX _)⟩)
      refine ⟨W++[p],rfl,s4,ed4,ew4,tr,.inr ⟨e2,rfl,by rw[Ae];show W.length+1=_;lia⟩⟩
     ·have kk:k=k'+1:=dp.uniq d2
      refine ⟨W++[p]++[p'],rfl,s4,ed4,ew4,tr.add (by lia) d1 st,.inl ⟨p',k',e2,rfl,d1,by rw[Ae];show k'+(W.length+1)=_;lia⟩⟩
    ·refine ⟨_,rfl,rfl,_,rfl,aX ?_⟩
     refine ⟨_,rfl,wy,_,rfl,.inl ⟨SqL.of ew3,λz hz=>q1 z _ NN Z (s3.trans (ai hz _)) ah ⟨tr,lZ⟩⟩⟩
   ·rintro σ H Q Q' h ⟨v,e,k,c,t,q⟩;exact ⟨v,e,k,c,t,h _ _ q⟩
  ·rw[decide_eq_false hg]
   have hY:Y=[]:=h2.resolve_right hg
   subst hY
   exact a9 (q0 H' s' λk wk=>hg (I.stop wk))
 case gT =>
 refine ⟨_,(@ag _ _ _ _ _ (@ax _ _ 3 _ _ _ _ bz.nd rfl (Or.inl rfl) (wC (uJ (pv 1) dJ wB) rfl rfl (by simp) (by decide)) rfl (by first | exact .inl rfl | exact .inr rfl | assumption))
  (@ag _ _ _ _ _ (@ax _ _ 4 _ _ _ _ bz.nd rfl (Or.inl rfl) (@cJ _ _ _ _ (@aa _ _ _ _ _ (pv 1) af rfl)) rfl (by first | exact .inl rfl | exact .inr rfl | assumption))
  (@ag _ _ _ _ _ (eI Bh (PW.pt (cq (tN (pv 4) (λ_=>rfl)) (bN (dM (iw hu (pv 2) (pv 3))))))
   (@ag _ _ _ _ _ (@ax _ _ 5 _ _ _ _ bz.nd rfl (Or.inl rfl) (@cJ _ _ _ _ af) rfl (by first | exact .inl rfl | exact .inr rfl | assumption))
   (@ag _ _ _ _ _ (@cf _ _ _ _ _ _ _ _ Bh rfl (@cM _ _ _ _ (pv 4)) (aH (i:=6) bz.nd rfl (Or.inl rfl))
    (@aj _ _ _ (@cf _ _ _ _ _ _ _ _ Bh rfl (@cM _ _ _ _ (@aq _ _ _ _ _ _ _ bq (pv 0) (pv 6) (λ_ _=>rfl))) (aH (i:=7) bz.nd rfl (Or.inl rfl))
     (@aj _ _ _ (@aZ _ _ _ _ _ _ _ _ (PW.pt (cq (dM (iw hu (pv 7) (pv 3))) (bN (PW.pt (iL (av jw (pv 6) (pv 1) (aJ _)) (hV (av jw (pv 7) (pv 2) (aJ _)))))))) (@ag _ _ _ _ _ (i6 hu (pv 3) (pv 7) (pv 6) rfl)
      (@aj _ _ _ (cc (eD Be Bp Bq bL (pv 5) (@aa _ _ _ _ _ (pv 7) af rfl))))) aM)) (λ_=>rfl))) (λ_=>rfl))
   (@aj _ _ _ (@ax _ _ 4 _ _ _ _ bz.nd rfl (Or.inl rfl) (pv 5) rfl (by first | exact .inl rfl | exact .inr rfl | assumption))))))
  pT))),?_⟩
 refine λdd hdd=>⟨_,rfl,ah,[(Sum.inl sa,.non)],rfl,(by show 1<=15;decide),?_⟩
 have e1d:upd (upd H dd (.dK [])) dd (.dK (eS [] [(Sum.inl sa,V.non)])) dd=some (.dK (mp [(sa,.non)])):=ah
 have s1:aA H (upd (upd H dd (.dK [])) dd (.dK (eS [] [(Sum.inl sa,V.non)]))):=λb o e=>by
  rw[aD (aN e hdd),aD (aN e hdd)];exact e
 generalize upd (upd H dd (.dK [])) dd (.dK (eS [] [(Sum.inl sa,V.non)]))=H1 at e1d s1
 refine ⟨_,rfl,(by show 1<=Ao;decide),λy hy =>?_⟩
 have g2:=ai hy (.lst [.int sa])
 have e2y:upd H1 y (.lst [.int sa]) y=some (.lst (([sa]:List Int).map V.int)):=ah
 have e2d:=g2 _ _ e1d
 have s2:=s1.trans g2
 generalize upd H1 y (.lst [.int sa])=H2 at g2 e2y e2d s2
 refine eJ (λσ H'=>∃(c5 c6 c7:Option V) (y:Addr) (d:Nat) (C:List (Int×V)) (Y:List Int),σ=[some (.ref n),some (.int sa),some (.int gb),some (.ref dd),some (.ref y),c5,c6,c7,none]/\aA H H'/\H' dd=some (.dK (mp C))/\H' y=some (.lst (Y.map V.int))/\Rnd ns sa gb d C Y [])
  (λσ H'=>2*(m-uZ H' dd)+yl σ H') ⟨_,_,_,y,0,_,_,rfl,s2,e2d,e2y,Rnd.start ns sa gb⟩ ?_ ?_
 ·rintro σ H' ⟨c5,c6,c7,y,d,C,Y,rfl,s',ed,ey,I⟩
  refine ⟨_,rfl, !(Y.map V.int).isEmpty,.inl ⟨_,SqL.of ey,rfl⟩,?_⟩
  by_cases hY:Y=[]
  ·have fin:=mT _ _ ⟨c5,c6,c7,dd,y,d,C,Y,rfl,hdd,s',ed,ey,I,.inl hY⟩
   subst hY
   exact aX fin
  rw[show (!(Y.map V.int).isEmpty)=true by cases Y with | nil=>exact absurd rfl hY | cons a t=>rfl]
  refine a9 ⟨_,rfl,_,rfl,dd,_,rfl,gn.k (k:=Sum.inl gb) ed,_,rfl,?_⟩
  rw[u3]
  by_cases hg:gb∈C.map (·.1)
  ·rw[decide_eq_true hg]
   exact aX (mT _ _ ⟨c5,c6,c7,dd,y,d,C,Y,rfl,hdd,s',ed,ey,I,.inr hg⟩)
  rw[decide_eq_false hg]
  refine a9 ⟨(by show 0<=Ao;decide),λfu hfu =>?_⟩
  have hf0:=s'.free hfu
  have g3:=ai hfu (.lst [])
  have ef:upd H' fu (.lst []) fu=some (.lst (([]:List Int).map V.int)):=ah
  have ed3:=g3 _ _ ed
  have ey3:=g3 _ _ ey
  have ndf:dd≠fu:=aN ed hfu
  have nyf:y≠fu:=aN ey hfu
  have s3:=s'.trans g3
  have nyd:y≠dd:=iK ey ed (by intro z;cases z)
  have mu0:2*(m-uZ H' dd)+yl [some (.ref n),some (.int sa),some (.int gb),some (.ref dd),some (.ref y),c5,c6,c7,none] H'=2*(m-C.length)+1:=by
   rw[qO ed,pW,xD ey,if_neg (by simpa using hY)]
  rw[mu0]
  generalize upd H' fu (.lst [])=H3 at g3 ef ed3 ey3 s3
  have kC:=kl I
  let W3:Nat->St->Hp->Prop:=λi σ H4=>∃(c6 c7:Option V) (C4:List (Int×V)) (F4:List Int),σ=[some (.ref n),some (.int sa),some (.int gb),some (.ref dd),some (.ref y),some (.ref fu),c6,c7,none]/\aA H H4/\H4 dd=some (.dK (mp C4))/\H4 y=some (.lst (Y.map V.int))/\H4 fu=some (.lst (F4.map V.int))/\Rnd ns sa gb d C4 Y F4/\C4.length=C.length+F4.length/\∀p∈Y.take i,∀o,stp ns sa gb p o->o∈C4.map (·.1)
  refine ⟨_,rfl,y,rfl,⟨_,SqL.of ey3⟩,gF (xs:=Y.map V.int) W3
   ⟨_,_,C,[],rfl,s3,ed3,ey3,ef,I,rfl,λp hp=>by simp at hp⟩ (λi σ H4 _ z =>?_) ?_ ?_⟩
  ·obtain ⟨_,_,_,_,_,_,_,e,_⟩:=z
   exact SqL.of e
  ·rintro i x σ H4 hx ⟨c6,c7,C4,F4,rfl,s4,ed4,ey4,ef4,I4,l4,cl4⟩
   obtain ⟨p,ep,rfl⟩:=oF hx
   have pY:=Aj ep
   have pr:=((I4.rdy p).mp pY).1.rng O hs
   obtain ⟨pn,rfl⟩:∃k:Nat,p=k:=⟨p.toNat,by lia⟩
   have N4:=N.same s4
   have pl:pn<os.length:=by rw[N.len];lia
   obtain ⟨uu,eu⟩:∃u,os[pn]? = some u:=⟨_,Ab pl⟩
   have rowu:=N4.row _ (Aj eu)
   have isu:=N.is pn _ eu
   refine ⟨_,rfl,_,rfl,n,_,(pn:Int),_,rfl,rfl,SqL.of N4.at',cN (by rw[Aw,eu];rfl),uu.1,rfl,⟨_,SqL.of rowu⟩,gF (xs:=uu.2.map V.int)
    (λj σ H5=>∃(c7:Option V) (C5:List (Int×V)) (F5:List Int),σ=[some (.ref n),some (.int sa),some (.int gb),some (.ref dd),some (.ref y),some (.ref fu),some (.int pn),c7,none]/\aA H H5/\H5 dd=some (.dK (mp C5))/\H5 y=some (.lst (Y.map V.int))/\H5 fu=some (.lst (F5.map V.int))/\Rnd ns sa gb d C5 Y F5/\C5.length=C.length+F5.length/\(∀p∈Y.take i,∀o,stp ns sa gb p o->o∈C5.map (·.1))/\∀o∈uu.2.take j,stp ns sa gb pn o->o∈C5.map (·.1))
    ⟨_,C4,F4,rfl,s4,ed4,ey4,ef4,I4,l4,cl4,λo ho=>by simp at ho⟩ (λj σ H5 _ z =>?_) ?_ ?_⟩
   ·obtain ⟨_,_,_,_,s5,_⟩:=z
    exact SqL.of ((N.same s5).row _ (Aj eu))
   ·rintro j x σ H5 hx ⟨c7,C5,F5,rfl,s5,ed5,ey5,ef5,I5,l5,cl5,tk5⟩
    obtain ⟨o,eo,rfl⟩:=oF hx
    have ao:Adj ns pn o:=(isu o).mp (Aj eo)
    refine ⟨_,rfl,_,rfl,dd,_,rfl,gn.k (k:=Sum.inl o) ed5,_,rfl,?_⟩
    rw[u3]
    by_cases ho:o∈C5.map (·.1)
    ·rw[decide_eq_true ho]
     refine aX (aX ⟨_,C5,F5,rfl,s5,ed5,ey5,ef5,I5,l5,cl5,λo' h' st =>?_⟩)
     rcases fJ eo h' with z | z
     ·exact tk5 o' z st
     ·rw[z];exact ho
    rw[decide_eq_false ho]
    have k5:=kl I5
    have hd:om H5 dd (.int o) (.int pn) (upd H5 dd (.dK (putK (mp C5) (Sum.inl o) (.int pn)))):=om.k (k:=Sum.inl o) ed5 (by rw[pW];exact cK (by lia))
    rw[yS ho] at hd
    have ed6:upd H5 dd (.dK (mp (C5++[(o,.int pn)]))) dd=some (.dK (mp (C5++[(o,.int pn)]))):=ah
    have ef6:upd H5 dd (.dK (mp (C5++[(o,.int pn)]))) fu=some (.lst (F5.map V.int)):=by rw[aD (B4 ndf)];exact ef5
    have ey6:upd H5 dd (.dK (mp (C5++[(o,.int pn)]))) y=some (.lst (Y.map V.int)):=by rw[aD nyd];exact ey5
    have s6:=aA.bQ s5 hdd (.dK (mp (C5++[(o,.int pn)])))
    generalize upd H5 dd (.dK (mp (C5++[(o,.int pn)])))=H6 at hd ed6 ef6 ey6 s6
    have fin:stp ns sa gb pn o->∃(c7:Option V) (C5:List (Int×V)) (F5':List Int),[some (.ref n),some (.int sa),some (.int gb),some (.ref dd),some (.ref y),some (.ref fu),some (.int pn),some (.int o),none]=[some (.ref n),some (.int sa),some (.int gb),some (.ref dd),some (.ref y),some (.ref fu),some (.int pn),c7,none]/\aA H (upd H6 fu (.lst (F5.map V.int++[.int o])))/\(upd H6 fu (.lst (F5.map V.int++[.int o]))) dd=some (.dK (mp C5))/\(upd H6 fu (.lst (F5.map V.int++[.int o]))) y=some (.lst (Y.map V.int))/\(upd H6 fu (.lst (F5.map V.int++[.int o]))) fu=some (.lst (F5'.map V.int))/\Rnd ns sa gb d C5 Y F5'/\C5.length=C.length+F5'.length/\(∀p∈Y.take i,∀o,stp ns sa gb p o->o∈C5.map (·.1))/\∀o∈uu.2.take (j+1),stp ns sa gb pn o->o∈C5.map (·.1):=λst=>by
     refine ⟨_,C5++[(o,.int pn)],F5++[o],rfl,aA.bQ s6 hf0 _,by rw[aD ndf];exact ed6,by rw[aD nyf];exact ey6,by rw[ah,AE];rfl,I5.add pY st ho,by rw[Ae,Ae,l5];rfl,λp' hp' o' st' =>?_,λo' h' st' =>?_⟩
     ·rw[AE];exact CK _ (cl5 p' hp' o' st')
     ·rw[AE]
      rcases fJ eo h' with z | z
      ·exact CK _ (tk5 o' z st')
      ·rw[z];exact AQ _ (by simp)
    have lf:F5.length<=400:=by lia
    refine a9 ⟨_,rfl,_,rfl,rfl,_,rfl,dQ (λz =>?_) λz=>⟨_,rfl,_,rfl,rfl,_,rfl,dQ (λz2 =>?_) λz2 =>?_⟩⟩
    ·have h1:(pn:Int)≠sa:=by simpa using z
     exact a9 ⟨_,rfl,_,rfl,_,rfl,dd,_,rfl,hd,_,rfl,.inl ⟨rfl,_,SqL.of ef6⟩,_,rfl,fu,_,_,rfl,rfl,ef6,by rw[z4];exact cK (by lia),fin ⟨ao,.inl h1⟩⟩
    ·have h1:o≠gb:=by simpa using z2
     exact ⟨_,rfl,_,rfl,_,rfl,dd,_,rfl,hd,_,rfl,.inl ⟨rfl,_,SqL.of ef6⟩,_,rfl,fu,_,_,rfl,rfl,ef6,by rw[z4];exact cK (by lia),fin ⟨ao,.inr h1⟩⟩
    ·refine ⟨_,C5,F5,rfl,s5,ed5,ey5,ef5,I5,l5,cl5,λo' h' st =>?_⟩
     rcases fJ eo h' with y' | y'
     ·exact tk5 o' y' st
     ·subst y'
      have h1:(pn:Int)=sa:=by simpa using z
      have h2:o'=gb:=by simpa using z2
      exact absurd st.2 (by simp[h1,h2])
   ·rintro σ H5 ⟨c7,C5,F5,rfl,s5,ed5,ey5,ef5,I5,l5,cl5,tk5⟩
    rw[z4,AY (Ag _)] at tk5
    refine ⟨_,_,C5,F5,rfl,s5,ed5,ey5,ef5,I5,l5,λp' hp' o st =>?_⟩
    rcases fJ ep hp' with z | z
    ·exact cl5 p' z o st
    ·subst z
     exact tk5 o ((isu o).mpr st.1) st
  ·rintro σ H4 ⟨c6,c7,C4,F4,rfl,s4,ed4,ey4,ef4,I4,l4,cl4⟩
   rw[z4,AY (Ag _)] at cl4
   have I5:=I4.next cl4
   have k4:=kl I4
   refine ⟨_,rfl,⟨_,_,_,fu,d+1,C4,F4,rfl,s4,ed4,ef4,I5⟩,?_⟩
   show 2*(m-uZ H4 dd)+yl [some (.ref n),some (.int sa),some (.int gb),some (.ref dd),some (.ref fu),some (.ref fu),c6,c7,none] H4<_
   rw[qO ed4,pW,xD ef4]
   by_cases hF:F4=[]
   ·subst hF;rw[if_pos (show List.map V.int []=[] from rfl),l4];show 2*(m-(C.length+0))+0<_;lia
   ·rw[if_neg (by simpa using hF),l4]
    have:=Cy.mpr hF
    lia
 ·rintro σ H Q Q' h ⟨v,e,k,t,q⟩
  refine ⟨v,e,k,t,?_⟩
  cases k with
  | false=>exact h _ _ q
  | true =>
   obtain ⟨v,e,v2,e2,a,o,e3,g,c,e4,q⟩:=q
   exact ⟨v,e,v2,e2,a,o,e3,g,c,e4,h _ _ q⟩
end
def sQ (ns:List (List Int))(a b:Int):Prop:=a≠b/\ns.count [a,b]<2/\∀k,¬ Wk (stp ns a b) a k b
def Al (ns:List (List Int))(a b:Int)(Z:List Int):Prop:=(a=b/\Z=[a])\/(a≠b/\2<=ns.count [a,b]/\Z=[a,b])\/(a≠b/\ns.count [a,b]<2/\∃N,Way ns a b N Z)
theorem qR {H:Hp}{r:Addr}{m:Nat}{ts:List (Addr×List Int)}(W:Wb H r m ts):Ok m (ts.map (·.2)):=λp hp=>by
 obtain ⟨u,hu,rfl⟩:=Bc.mp hp
 exact W.pr u hu
theorem Al.ring {m:Nat}{ns:List (List Int)}(O:Ok m ns){a b:Int}(hp:[a,b]∈ns){Z:List Int}(h:Al ns a b Z):Ring m ns Z:=by
 obtain ⟨_,_,e,a0,ab,bm⟩:=O _ hp
 cases e
 rcases h with ⟨rfl,rfl⟩ | ⟨ne,c2,rfl⟩ | ⟨ne,c2,N,w⟩
 ·refine ⟨by simp,by simp,λv hv =>?_,?_,λx y e=>by simp at e⟩
  ·rw[Ah] at hv;subst hv;exact ⟨a0,bm⟩
  ·show nrm a a∈ns/\True
   rw[d8 ab];exact ⟨hp,trivial⟩
 ·refine ⟨by simp,by simp[ne],λv hv =>?_,?_,λx y e =>?_⟩
  ·rcases AJ.mp hv with z | z
   ·subst z;exact ⟨a0,by lia⟩
   ·rw[Ah] at z;subst z;exact ⟨by lia,bm⟩
  ·show nrm a b∈ns/\nrm b a∈ns/\True
   rw[gO b a,d8 ab];exact ⟨hp,hp,trivial⟩
  ·cases e;rw[d8 ab];exact c2
 ·exact w.ring O ne ⟨a0,by lia⟩ (by unfold Td;rw[d8 ab];exact hp)
abbrev oG:Sp:=λvs H Q _=>∃(r n t:Addr) (m:Nat) (ts os:List (Addr×List Int)) (a b:Int),vs=[.ref r,.ref n,.ref t]/\Wb H r m ts/\iD H n m (ts.map (·.2)) os/\m<=400/\H t=some (.tup [.int a,.int b])/\[a,b]∈ts.map (·.2)/\(∀H',aA H H'->sQ (ts.map (·.2)) a b->Q .non H')/\∀(z:Addr) (H':Hp) (Z:List Int),aA H H'->H' z=some (.tup (Z.map V.int))->Al (ts.map (·.2)) a b Z->Q (.ref z) H'
@[irreducible] def jf:Sp:=oG
theorem fi {vs:List V}{H:Hp}{Q:VK}{E:XK}:jf vs H Q E↔oG vs H Q E:=by
 delta jf
 exact Cp
section
variable  {P:Au}{w:AV}{K:z8}{mg:Str->Option z9}{base:Heap}{f T:Addr}{fd:A3}
theorem oH:aE ["web", "near", "tie"] ["web", "near", "tie"] (ak gq):=⟨rfl,rfl,rfl,by decide +kernel,rfl,by decide +kernel,by decide +kernel⟩
theorem oI (F:Fun K "ring_along" "ring_along" gq f fd)(B:Blt mg)(cWayAbout:Cal P w K mg base 1 "way_about" ["near", "start", "goal"] qQ)(cTiedTimes:Cal P w K mg base 2 "tied_times" ["web", "one", "other"] jb):a7 P w K mg base CX0 3 f fd ["web", "near", "tie"] jf:=by
 refine F.ok oH (λvs H Q E h =>?_) (λcdv A outer s H vs Q E hr h =>?_)
 ·obtain ⟨_,_,_,_,_,_,_,_,rfl,_⟩:=fi.mp h
  rfl
 obtain ⟨r,n,t,m,ts,os,a,b,rfl,W,N,m4,et,hp,q0,q1⟩:=fi.mp h
 refine ⟨_,(@ag _ _ _ _ _ (@aZ _ _ _ _ _ _ _ _ (av cp (@aq _ _ _ _ _ _ _ au (pv 2) ae (λ_ _=>rfl)) (@aq _ _ _ _ _ _ _ au (pv 2) ae (λ_ _=>rfl)) (aJ _)) (@aj _ _ _ (@aF _ _ _ _ (@bC _ _ _ _ _ (@aa _ _ _ _ _ (@aq _ _ _ _ _ _ _ au (pv 2) ae (λ_ _=>rfl)) af rfl)))) aM)
  (@ag _ _ _ _ _ (@aZ _ _ _ _ _ _ _ _ (av zi (ay cTiedTimes hr (by decide) rfl (@aa _ _ _ _ _ (pv 0) (@aa _ _ _ _ _ (@aq _ _ _ _ _ _ _ au (pv 2) ae (λ_ _=>rfl)) (@aa _ _ _ _ _ (@aq _ _ _ _ _ _ _ au (pv 2) ae (λ_ _=>rfl)) af rfl) rfl) rfl)) ae (aJ _)) (@aj _ _ _ (@aF _ _ _ _ (pv 2))) aM)
  (@aj _ _ _ (@aF _ _ _ _ (ay cWayAbout hr (by decide) rfl (@aa _ _ _ _ _ (pv 1) (@aa _ _ _ _ _ (@aq _ _ _ _ _ _ _ au (pv 2) ae (λ_ _=>rfl)) (@aa _ _ _ _ _ (@aq _ _ _ _ _ _ _ au (pv 2) ae (λ_ _=>rfl)) af rfl) rfl) rfl)))))),?_⟩
 have O:=qR W
 obtain ⟨_,_,e,a0,ab,bm⟩:=O _ hp
 cases e
 refine ⟨_,rfl,t,_,0,_,rfl,rfl,SqT.of et,rfl,_,rfl,t,_,1,_,rfl,rfl,SqT.of et,rfl,rfl,_,rfl,dQ (λz =>?_) λz =>?_⟩
 ·have eq:a=b:=by simpa using z
  exact ⟨_,rfl,t,_,0,_,rfl,rfl,SqT.of et,rfl,(by show 1<=Ao;decide),λz hz=>q1 z _ [a] (ai hz _) ah (.inl ⟨eq,rfl⟩)⟩
 have ne:a≠b:=by simpa using z
 refine ⟨_,rfl,_,rfl,t,_,0,_,rfl,rfl,SqT.of et,rfl,_,rfl,t,_,1,_,rfl,rfl,SqT.of et,rfl,fh.mpr ⟨r,m,a,b,ts,rfl,W,λH1 s1 =>?_⟩⟩
 rw[d8 ab]
 refine ⟨_,_,rfl,rfl,_,rfl,dQ (λz =>?_) λz =>?_⟩
 ·have c2:2<=(ts.map (·.2)).count [a,b]:=by have z':=of_decide_eq_true z;lia
  exact ⟨_,rfl,q1 t H1 [a,b] s1 (s1 _ _ et) (.inr (.inl ⟨ne,c2,rfl⟩))⟩
 have c2:(ts.map (·.2)).count [a,b]<2:=by have z':=of_decide_eq_false (eq_false_of_ne_true z);lia
 refine ⟨_,rfl,_,rfl,t,_,0,_,rfl,rfl,SqT.of (s1 _ _ et),rfl,_,rfl,t,_,1,_,rfl,rfl,SqT.of (s1 _ _ et),rfl,iE.mpr ⟨n,m,_,os,a,b,rfl,N.same s1,O,m4,⟨a0,by lia⟩,ne,λH2 s2 no=>q0 H2 (s1.trans s2) ⟨ne,c2,no⟩,λz H2 NN Z s2 ez w=>q1 z H2 Z (s1.trans s2) ez (.inr (.inr ⟨ne,c2,NN,w⟩))⟩⟩
end
def enc:Option (Addr×List Int)->V
 | none =>.non
 | some u =>.ref u.1
def keep (ws:List (Option (Addr×List Int))):List (Addr×List Int):=ws.filterMap id
theorem gX {ws:List (Option (Addr×List Int))}{u:Addr×List Int}:u∈keep ws↔some u∈ws:=by
 unfold keep
 rw[Ej]
 exact ⟨λ⟨a,h,e⟩=>by rw[<- show a=some u from e];exact h,λh=>⟨some u,h,rfl⟩⟩
abbrev oJ:Sp:=λvs H Q _=>∃(l:Addr) (ws:List (Option (Addr×List Int))),vs=[.ref l]/\H l=some (.lst (ws.map enc))/\(∀u,some u∈ws->H u.1=some (.tup (u.2.map V.int)))/\ws.length<=1000/\(∀H',aA H H'->(∀x∈ws,x=none)->Q .non H')/\∀(u:Addr×List Int) (H':Hp),aA H H'->some u∈ws->(∀v,some v∈ws->u.2.length<=v.2.length)->Q (.ref u.1) H'
@[irreducible] def jg:Sp:=oJ
theorem fj {vs:List V}{H:Hp}{Q:VK}{E:XK}:jg vs H Q E↔oJ vs H Q E:=by
 delta jg
 exact Cp
section
variable  {P:Au}{w:AV}{K:z8}{mg:Str->Option z9}{base:Heap}{f T:Addr}{fd:A3}
theorem mW:aE ["ways"] ["ways"] (ak eZ):=⟨rfl,rfl,rfl,by decide +kernel,rfl,by decide +kernel,by decide +kernel⟩
theorem iF:(["way"]:List Str).Nodup:=by decide +kernel
theorem mX (F:Fun K "shortest_of" "shortest_of" eZ f fd)(B:Blt mg):a7 P w K mg base CX0 1 f fd ["ways"] jg:=by
 refine F.ok mW (λvs H Q E h =>?_) (λcdv A outer s H vs Q E hr h =>?_)
 ·obtain ⟨_,_,rfl,_⟩:=fj.mp h
  rfl
 obtain ⟨l,ws,rfl,el,tu,l9,q0,q1⟩:=fj.mp h
 refine ⟨_,(@aj _ _ _ (@aF _ _ _ _ (sM rfl rfl B.b_min rfl B.b_len iC (cj ["way"] [none] rfl (@cM _ _ _ _ (pv 0)) rfl (λ_ _ _ _ _=>(aH (i:=0) iF rfl (Or.inl rfl))) (λ_ _ _ _ _=>(dS (av mi (pv 0) dJ (aJ _)))) (λ_ _ _ _ _=>(pv 0)))))),?_⟩
 refine ⟨_,rfl,l,rfl,⟨_,SqL.of el⟩,cw (xs:=ws.map enc) (λi ys H'=>H'=H/\ys=(keep (ws.take i)).map λu =>.ref u.1) ⟨rfl,rfl⟩ (by rw[z4];exact small l9) (λi ys H' _ z=>by rw[z.1];exact SqL.of el) ?_ ?_⟩
 ·rintro i x ys H3 hx hy ⟨eH,rfl⟩ R1 R0 r1 r0
  rw[Aw] at hx
  cases z:ws[i]? with
  | none=>rw[z] at hx;cases hx
  | some o =>
   rw[z] at hx
   have hx:enc o=x:=AI hx
   subst hx
   cases o with
   | none =>
    refine ⟨_,rfl,rfl,_,rfl,aX (r0 _ ⟨eH,?_⟩)⟩
    unfold keep
    rw[Bm,z,F1]
    show _=((ws.take i).filterMap id++[]).map _
    rw[AU]
   | some u =>
    refine ⟨_,rfl,rfl,_,rfl,a9 ⟨_,rfl,r1 _ _ ⟨eH,?_⟩⟩⟩
    unfold keep
    rw[Bm,z,F1,AE];rfl
 ·rintro ys H3 hy ⟨eH,rfl⟩ l2 hl2
  rw[eH] at hl2 ⊢
  rw[z4,AY (Ag _)]
  have g2:=ai hl2 (.lst ((keep ws).map λu =>.ref u.1))
  refine ⟨l2,keep ws,rfl,SqL.of ah,λt ht=>SqT.of (g2 _ _ (tu t (gX.mp ht))),λz=>q0 _ g2 λx hx =>?_,λt ht mn=>q1 t _ g2 (gX.mp ht) λv hv=>mn v (gX.mpr hv)⟩
  cases x with
  | none=>rfl
  | some u =>
   have:=gX.mpr hx
   rw[z] at this;cases this
end
def yU (ns:List (List Int))(p:List Int)(o:Option (Addr×List Int)):Prop:=∀a b:Int,p=[a,b]->(o=none/\sQ ns a b)\/∃u,o=some u/\Al ns a b u.2
abbrev u7:Sp:=λvs H Q _=>∃(r t:Addr) (m:Nat) (ts us:List (Addr×List Int)),vs=[.ref r,.ref t]/\Wb H r m ts/\m<=400/\(H t=some (.lst (us.map λu =>.ref u.1))\/H t=some (.tup (us.map λu =>.ref u.1)))/\(∀u∈us,u∈ts)/\us.length<=200/\(∀H',aA H H'->(∀u∈us,∀a b,u.2=[a,b]->sQ (ts.map (·.2)) a b)->Q .non H')/\∀(z:Addr) (H':Hp) (Z:List Int) (M:Int),aA H H'->H' z=some (.tup ((frm Z M).map V.int))->M∈Z->(∀b∈Z,M<=b)->(∃u∈us,∃a b,u.2=[a,b]/\Al (ts.map (·.2)) a b Z)->(∀u∈us,∀a b,u.2=[a,b]->sQ (ts.map (·.2)) a b\/∃Z',Al (ts.map (·.2)) a b Z'/\Z.length<=Z'.length)->Q (.ref z) H'
@[irreducible] def qS:Sp:=u7
theorem iG {vs:List V}{H:Hp}{Q:VK}{E:XK}:qS vs H Q E↔u7 vs H Q E:=by
 delta qS
 exact Cp
section
variable  {P:Au}{w:AV}{K:z8}{mg:Str->Option z9}{base:Heap}{f T:Addr}{fd:A3}
theorem d9:aE ["web", "ties", "near", "least"] ["web", "ties"] (ak e6):=⟨rfl,rfl,rfl,by decide +kernel,rfl,by decide +kernel,by decide +kernel⟩
theorem cZ:(["tie", "web", "near"]:List Str).Nodup:=by decide +kernel
theorem mZ (F:Fun K "least_along" "least_along" e6 f fd)(B:Blt mg)(cNearLists:Cal P w K mg base 1 "near_lists" ["web"] i9)(cShortestOf:Cal P w K mg base 1 "shortest_of" ["ways"] jg)(cRingForm:Cal P w K mg base 1 "ring_form" ["ring"] j3)(cRingAlong:Cal P w K mg base 3 "ring_along" ["web", "near", "tie"] jf):a7 P w K mg base CX0 4 f fd ["web", "ties"] qS:=by
 refine F.ok d9 (λvs H Q E h =>?_) (λcdv A outer s H vs Q E hr h =>?_)
 ·obtain ⟨_,_,_,_,_,rfl,_⟩:=iG.mp h
  rfl
 obtain ⟨r,t,m,ts,us,rfl,W,m4,ht,hin,l2,q0,q1⟩:=iG.mp h
 refine ⟨_,(@ag _ _ _ _ _ (@ax _ _ 2 _ _ _ _ d9.nd rfl (Or.inr rfl) (ay cNearLists hr (by decide) rfl (@aa _ _ _ _ _ (pv 0) af rfl)) rfl (by first | exact .inl rfl | exact .inr rfl | assumption))
  (@ag _ _ _ _ _ (@ax _ _ 3 _ _ _ _ d9.nd rfl (Or.inl rfl) (ay cShortestOf hr (by decide) rfl (@aa _ _ _ _ _ (cj ["tie", "web", "near"] [none,some 0,some 2] rfl (@cM _ _ _ _ (aB (eQ (w:=w) rfl hr.hd) rfl B.b_sorted fI (@aa _ _ _ _ _ (bj (jS (w:=w) rfl hr.hd hr.units) rfl B.b_set yP (@aa _ _ _ _ _ (pv 1) af rfl)) af rfl))) rfl (λ_ _ _ _ _=>(aH (i:=0) cZ rfl (Or.inl rfl))) (λ_ _ _ _ _=>jH) (λ_ _ _ _ _=>(ay cRingAlong hr (by decide) rfl (@aa _ _ _ _ _ (pv 1) (@aa _ _ _ _ _ (pv 2) (@aa _ _ _ _ _ (pv 0) af rfl) rfl) rfl)))) af rfl)) rfl (by first | exact .inl rfl | exact .inr rfl | assumption))
  (@ag _ _ _ _ _ (@aZ _ _ _ _ _ _ _ _ (av tM (pv 3) dJ (aJ _)) (@aj _ _ _ (@aF _ _ _ _ dJ)) aM)
  (@aj _ _ _ (@aF _ _ _ _ (ay cRingForm hr (by decide) rfl (@aa _ _ _ _ _ (pv 3) af rfl))))))),?_⟩
 have O:=qR W
 refine ⟨_,rfl,ff.mpr ⟨r,m,ts,rfl,W,by lia,by lia,λn H1 os s1 en lo ro iso =>?_⟩⟩
 have NA:iD H1 n m (ts.map (·.2)) os:=⟨en,by rw[lo];lia,ro,λj u e=>(iso j u e).2⟩
 have tu1:∀u∈us,H1 u.1=some (.tup (u.2.map V.int)):=λu hu=>s1 _ _ (W.tup u (hin u hu))
 refine ⟨_,rfl,t,us,rfl,ht.elim (λz =>.inl (SqL.of (s1 _ _ z))) (λz =>.inr (SqT.of (s1 _ _ z))),λu hu=>SqT.of (tu1 u hu),by lia,λa ss hna mu ndu cov hlu =>?_⟩
 have ga:=ai hna (gm w a (ss.map λt =>.ref t.1))
 refine ⟨a,ss,rfl,ah,λu hu=>⟨SqT.of (ga _ _ (tu1 u (mu u hu))),λz =>?_⟩,by lia,λl out hl pm ps =>?_⟩
 ·obtain ⟨x,y,e,_⟩:=W.pr u (hin u (mu u hu))
  rw[z] at e;cases e
 have gl:=ga.trans (ai hl (.lst (out.map λt =>.ref t.1)))
 have el:upd (upd H1 a (gm w a (ss.map λt =>.ref t.1))) l (.lst (out.map λt =>.ref t.1)) l=some (.lst (out.map λt =>.ref t.1)):=ah
 generalize upd (upd H1 a (gm w a (ss.map λt =>.ref t.1))) l (.lst (out.map λt =>.ref t.1))=H2 at gl el
 have s2:=s1.trans gl
 have lo2:out.length<=200:=by rw[pm.length_eq];lia
 have oin:∀u∈out,u∈us:=λu hu=>mu u (pm.mem_iff.mp hu)
 let W4:Nat->List V->Hp->Prop:=λi ys H'=>aA H2 H'/\∃ws:List (Option (Addr×List Int)),ys=ws.map enc/\ws.length=i/\(∀u,some u∈ws->H' u.1=some (.tup (u.2.map V.int)))/\∀(k:Nat) u o,out[k]? = some u->ws[k]? = some o->yU (ts.map (·.2)) u.2 o
 refine ⟨l,rfl,⟨_,SqL.of el⟩,cw (xs:=out.map λu =>.ref u.1) W4 ⟨aA.refl _,[],rfl,rfl,λu h=>by (cases h),λk u o _ e=>by simp at e⟩ (by rw[z4];exact small (by lia)) (λi ys H' _ z=>SqL.of (z.1 _ _ el)) ?_ ?_⟩
 ·rintro i x ys H3 hx hy ⟨s3,ws,rfl,lw,tw,tl⟩ R1 R0 r1 r0
  obtain ⟨u,eu,rfl⟩:=item hx
  have uin:=hin u (oin u (Aj eu))
  obtain ⟨x,y,exy,_⟩:=W.pr u uin
  have s23:=s2.trans s3
  have eu3:H3 u.1=some (.tup [.int x,.int y]):=by rw[s23 _ _ (W.tup u uin),exy];rfl
  have up:∀(o:Option (Addr×List Int)) (H4:Hp),aA H3 H4->(∀v,o=some v->H4 v.1=some (.tup (v.2.map V.int)))->yU (ts.map (·.2)) u.2 o->R1 (enc o) H4:=λo H4 s4 ho hT=>by
   refine r1 _ _ ⟨s3.trans s4,ws++[o],by rw[AE];rfl,by rw[Ae,lw];rfl,λv hv =>?_,λk v p e1 e2 =>?_⟩
   ·rcases As.mp hv with z | z
    ·exact s4 _ _ (tw v z)
    ·rw[Ah] at z;exact ho v z.symm
   ·rcases Eh k i with c | c
    ·rw[AW (by lia)] at e2;exact tl k v p e1 e2
    ·rw[A0 (by lia)] at e2
     have:k-ws.length=0:=by
      rcases DJ (k-ws.length) with z | z
      ·exact z
      ·rw[Bx (by simp;lia)] at e2;cases e2
     rw[this] at e2;cases e2
     rw[show k=i by lia,eu] at e1;cases e1
     exact hT
  refine a9 ⟨_,rfl,_,rfl,_,rfl,fi.mpr ⟨r,n,u.1,m,ts,os,x,y,rfl,W.same s23,NA.same (gl.trans s3),m4,eu3,by rw[<- exy];exact C8 (f:=(·.2)) uin,λH4 s4 no=>up none H4 s4 (λv e=>by cases e) λa b e =>?_,λz H4 Z s4 ez al=>up (some (z,Z)) H4 s4 (λv e=>by cases e;exact ez) λa b e =>?_⟩⟩
  ·rw[exy] at e;cases e;exact .inl ⟨rfl,no⟩
  ·rw[exy] at e;cases e;exact .inr ⟨_,rfl,al⟩
 ·rintro ys H3 hy ⟨s3,ws,rfl,lw,tw,tl⟩ l3 hl3
  rw[z4] at lw
  have g4:=ai hl3 (.lst (ws.map enc))
  have el4:upd H3 l3 (.lst (ws.map enc)) l3=some (.lst (ws.map enc)):=ah
  generalize upd H3 l3 (.lst (ws.map enc))=H4 at g4 el4
  have s4:=s2.trans (s3.trans g4)
  have tell:∀u∈us,∃o∈ws,yU (ts.map (·.2)) u.2 o:=λu hu=>by
   obtain ⟨v,hv,ev⟩:=Bc.mp (cov u hu)
   obtain ⟨k,ek⟩:=Bb.mp (pm.mem_iff.mpr hv)
   have kl:=(Af.mp ek).1
   have ew:ws[k]? = some (ws[k]'(by lia)):=Ab (by lia)
   exact ⟨_,Aj ew,ev ▸ tl k v _ ek ew⟩
  refine fj.mpr ⟨l3,ws,rfl,el4,λu hu=>g4 _ _ (tw u hu),by lia,λH5 s5 no =>?_,λu H5 s5 hu mn =>?_⟩
  ·refine ⟨_,rfl,rfl,_,rfl,a9 (q0 H5 (s4.trans s5) λu hu a b e =>?_)⟩
   obtain ⟨o,ho,hT⟩:=tell u hu
   rw[no o ho] at hT
   rcases hT a b e with ⟨_,z⟩ | ⟨v,e2,_⟩
   ·exact z
   ·cases e2
  ·refine ⟨_,rfl,rfl,_,rfl,aX ?_⟩
   obtain ⟨k,ek⟩:=Bb.mp hu
   have kl:=(Af.mp ek).1
   have ev:out[k]? = some (out[k]'(by lia)):=Ab (by lia)
   have vin:=oin _ (Aj ev)
   obtain ⟨x,y,exy,_⟩:=W.pr _ (hin _ vin)
   rcases tl k _ _ ev ek x y exy with ⟨e,_⟩ | ⟨v,e,al⟩
   ·cases e
   cases e
   have rg:=al.ring O (by rw[<- exy];exact C8 (f:=(·.2)) (hin _ vin))
   refine ⟨_,rfl,cx.mpr ⟨u.1,u.2,rfl,s5 _ _ (g4 _ _ (tw u hu)),rg.ne,?_,λz H6 M s6 hM mM ez=>q1 z H6 u.2 M (s4.trans (s5.trans s6)) ez hM mM ⟨_,vin,x,y,exy,al⟩ λv hv a b e =>?_⟩⟩
   ·have:=fg rg.nd rg.rng;lia
   ·obtain ⟨o,ho,hT⟩:=tell v hv
    rcases hT a b e with ⟨_,z⟩ | ⟨p,e2,al'⟩
    ·exact .inl z
    ·subst e2;exact .inr ⟨p.2,al',mn p ho⟩
end
abbrev oK:Sp:=λvs H Q _=>∃(r:Addr) (m:Nat) (ts:List (Addr×List Int)),vs=[.ref r]/\Wb H r m ts/\m<=400/\(∀H',aA H H'->(∀a b,[a,b]∈ts.map (·.2)->sQ (ts.map (·.2)) a b)->Q .non H')/\∀(z:Addr) (H':Hp) (Z:List Int) (M:Int),aA H H'->H' z=some (.tup ((frm Z M).map V.int))->M∈Z->(∀b∈Z,M<=b)->(∃a b,[a,b]∈ts.map (·.2)/\Al (ts.map (·.2)) a b Z)->(∀a b,[a,b]∈ts.map (·.2)->sQ (ts.map (·.2)) a b\/∃Z',Al (ts.map (·.2)) a b Z'/\Z.length<=Z'.length)->Q (.ref z) H'
@[irreducible] def jh:Sp:=oK
theorem df {vs:List V}{H:Hp}{Q:VK}{E:XK}:jh vs H Q E↔oK vs H Q E:=by
 delta jh
 exact Cp
section
variable  {P:Au}{w:AV}{K:z8}{mg:Str->Option z9}{base:Heap}{f T:Addr}{fd:A3}
theorem oM:aE ["web"] ["web"] (ak gr):=⟨rfl,rfl,rfl,by decide +kernel,rfl,by decide +kernel,by decide +kernel⟩
theorem oN (F:Fun K "least_ring" "least_ring" gr f fd)(B:Blt mg)(cLeastAlong:Cal P w K mg base 4 "least_along" ["web", "ties"] qS):a7 P w K mg base CX0 5 f fd ["web"] jh:=by
 refine F.ok oM (λvs H Q E h =>?_) (λcdv A outer s H vs Q E hr h =>?_)
 ·obtain ⟨_,_,_,rfl,_⟩:=df.mp h
  rfl
 obtain ⟨r,m,ts,rfl,W,m4,q0,q1⟩:=df.mp h
 refine ⟨_,(@aj _ _ _ (@aF _ _ _ _ (ay cLeastAlong hr (by decide) rfl (@aa _ _ _ _ _ (pv 0) (@aa _ _ _ _ _ (@aq _ _ _ _ _ _ _ au (pv 0) ae (λ_ _=>rfl)) af rfl) rfl)))),?_⟩
 obtain ⟨t,e1,e2⟩:=W.at'
 refine ⟨_,rfl,_,rfl,r,_,1,_,rfl,rfl,SqT.of e1,rfl,iG.mpr ⟨r,t,m,ts,ts,rfl,W,m4,.inr e2,λu hu=>hu,W.len,λH' s no=>q0 H' s λa b h =>?_,λz H' Z M s ez hM mM hx hn=>q1 z H' Z M s ez hM mM ?_ λa b h =>?_⟩⟩
 ·obtain ⟨u,hu,e⟩:=Bc.mp h
  exact no u hu a b e
 ·obtain ⟨u,hu,a,b,e,al⟩:=hx
  exact ⟨a,b,by rw[<- e];exact C8 (f:=(·.2)) hu,al⟩
 ·obtain ⟨u,hu,e⟩:=Bc.mp h
  exact hn u hu a b e
end
open PySem L2
theorem bo (ps:List Int):(ps.map V.int).all gH=true:=by
 rw[Ib,Dg]
 intro x _
 rfl
theorem j4 (k:Int):∀ps:List Int,inV (.int k) (ps.map V.int)=decide (k∈ps)
 | []=>by simp[inV]
 | p :: ps=>by
  have ih:=j4 k ps
  unfold inV at ih ⊢
  rw[AL,DQ,ih]
  have e:eqV (.int p) (.int k)=(p == k):=rfl
  rw[e]
  by_cases h:p=k
  ·subst h;simp
  ·rw[beq_eq_false_iff_ne.mpr h,GJ]
   apply decide_eq_decide.mpr
   rw[AJ]
   exact ⟨.inr,λx=>x.elim (λy=>absurd y.symm h) id⟩
theorem zQ:(["tie", "places"]:List Str).Nodup:=by decide +kernel
def off (ps:List Int)(p:List Int):Bool := !decide (p.getD 0 0∈ps) && !decide (p.getD 1 0∈ps)
abbrev u9:Sp:=λvs H Q _=>∃(r p:Addr) (m:Int) (ts:List (Addr×List Int)) (ps:List Int),vs=[.ref r,.ref p]/\Wb H r m ts/\(H p=some (.lst (ps.map V.int))\/H p=some (.tup (ps.map V.int))) ∧
 ∀(z:Addr) (us:List (Addr×List Int)) (H':Hp),aA H H'->Wb H' z m us->us.map (·.2)=(ts.map (·.2)).filter (off ps)->Q (.ref z) H'
@[irreducible] def qT:Sp:=u9
theorem fK {vs:List V}{H:Hp}{Q:VK}{E:XK}:qT vs H Q E↔u9 vs H Q E:=by
 delta qT
 exact Cp
section
variable  {P:Au}{w:AV}{K:z8}{mg:Str->Option z9}{base:Heap}{f T:Addr}{fd:A3}
theorem zR:aE ["web", "places"] ["web", "places"] (ak zM):=⟨rfl,rfl,rfl,by decide +kernel,rfl,by decide +kernel,by decide +kernel⟩
theorem lQ {α β:Type}{g:α -> Bool}{h:α -> β}{l:List α}{i:Nat}{x:α}(e:l[i]? = some x):((l.take (i+1)).filter g).map h=((l.take i).filter g).map h++if g x=true then [h x] else []:=by
 rw[Bm,e,CH,AE]
 congr 1
 show (List.filter g [x]).map h=_
 by_cases c:g x=true
 ·rw[if_pos c,BZ c];rfl
 ·rw[if_neg c,B0 c];rfl
theorem zS (F:Fun K "cut_web" "cut_web" zM f fd)(B:Blt mg):a7 P w K mg base CX0 1 f fd ["web", "places"] qT:=by
 refine F.ok zR (λvs H Q E h =>?_) (λcdv A outer s H vs Q E hr h =>?_)
 ·obtain ⟨a,b,c,d,e,rfl,_⟩:=fK.mp h
  rfl
 obtain ⟨r,p,m,ts,ps,rfl,W,hp,q⟩:=fK.mp h
 obtain ⟨t,e1,e2⟩:=W.at'
 refine ⟨_,aj (aF (bC (aa (aq au (pv 0) ae (λ_ _=>rfl)) (aa (bj aY rfl B.b_tuple PySem.Pv.boot_tuple (aa (cj ["tie", "places"] [none,some 1] rfl (gf (aq au (pv 0) ae (λ_ _=>rfl))) rfl (λ_ _ _ _ _=>aH (i:=0) zQ rfl (Or.inl rfl))
  (λ_ _ _ _ _=>dS (PW.pt (cq (av (ig (K:=K)) (aq (da (K:=K)) (pv 0) ae (λ_ _=>rfl)) (pv 1) rfl) (bN (av (ig (K:=K)) (aq (da (K:=K)) (pv 0) ae (λ_ _=>rfl)) (pv 1) rfl)))))
  (λ_ _ _ _ _=>pv 0)) af)) af)))),?_⟩
 refine ⟨_,rfl,r,_,0,_,rfl,rfl,SqT.of e1,rfl,_,rfl,r,_,1,_,rfl,rfl,SqT.of e1,rfl,t,rfl,⟨_,SqT.of e2⟩,fC (xs:=ts.map λu =>.ref u.1) (λi ys H'=>H'=H/\ys=((ts.take i).filter λu=>off ps u.2).map λu =>.ref u.1) ⟨rfl,rfl⟩ (by rw[z4];exact small (by have:=W.len;lia)) (λi ys H' _ z=>by rw[z.1];exact SqT.of e2) ?_ ?_⟩
 ·rintro i x ys H3 hx hy ⟨rfl,ey⟩ R1 R0 r1 r0
  obtain ⟨u,eu,rfl⟩:=item hx
  have hu:=W.tup u (Aj eu)
  obtain ⟨a,b,e3,_⟩:=W.pr u (Aj eu)
  rw[e3] at hu
  have bb:off ps u.2=(!decide (a∈ps) && !decide (b∈ps)):=by rw[e3];rfl
  have g1:off ps u.2=true->R1 (.ref u.1) H3:=λec=>r1 _ _ ⟨rfl,by rw[lQ eu,if_pos ec,ey]⟩
  have g0:off ps u.2=false->R0 H3:=λec=>r0 _ ⟨rfl,by rw[lQ eu,if_neg (by rw[ec];exact Ak),ey,AU]⟩
  refine ⟨_,rfl,u.1,_,0,_,rfl,rfl,SqT.of hu,rfl,_,rfl,p,_,rfl,(hp.elim (λz =>.inl (SqL.of z)) (λz =>.inr (SqT.of z))),rfl,bo ps,_,rfl,?_⟩
  show if (if true=true then !inV (.int a) (ps.map V.int) else _)=true then _ else _
  rw[if_pos rfl,j4]
  by_cases ha:a∈ps
  ·rw[decide_eq_true ha] at bb ⊢
   exact aX (aX (g0 bb))
  ·rw[decide_eq_false ha] at bb ⊢
   refine a9 ⟨_,rfl,u.1,_,1,_,rfl,rfl,SqT.of hu,rfl,_,rfl,p,_,rfl,(hp.elim (λz =>.inl (SqL.of z)) (λz =>.inr (SqT.of z))),rfl,bo ps,_,rfl,?_⟩
   show if (if true=true then !inV (.int b) (ps.map V.int) else _)=true then _ else _
   rw[if_pos rfl,j4]
   by_cases hb:b∈ps
   ·rw[decide_eq_true hb] at bb ⊢
    exact aX (g0 bb)
   ·rw[decide_eq_false hb] at bb ⊢
    exact a9 ⟨_,rfl,g1 bb⟩
 ·rintro ys H3 hy ⟨rfl,ey⟩ l hl
  rw[z4,AY (Ag _)] at ey
  refine ⟨l,_,rfl,.inl ⟨SqL.of ah,λl2 hl2=>⟨(by show 2<=Ao;decide),λz hz =>?_⟩⟩⟩
  subst ey
  have g1:=ai hl (.lst ((ts.filter λu=>off ps u.2).map λu=>V.ref u.1))
  have g2:=ai hl2 (.tup ((ts.filter λu=>off ps u.2).map λu=>V.ref u.1))
  have g3:=ai hz (.tup [.int m,.ref l2])
  have g:=(g1.trans g2).trans g3
  refine q z (ts.filter λu=>off ps u.2) _ g ⟨⟨l2,ah,g3 _ _ ah⟩,λu hu=>g _ _ (W.tup u (CC.mp hu).1),λu hu=>W.pr u (CC.mp hu).1,?_⟩ ?_
  ·exact A4 (Cg _ _) W.len
  ·rw[EY];rfl
end
open PySem L2
def gc (a b:Int):Int:=(Int.gcd a b:Int)
theorem qU {a b:Int}:gc b (a%b)=gc a b:=by
 unfold gc
 have e:a%b+b*(a/b)=a:=Int.emod_add_mul_ediv a b
 have h:=Int.gcd_add_mul_left_right b (a%b) (a/b)
 rw[e] at h
 rw[<- h,Int.gcd_comm]
theorem iH {a b:Int}(h:0<b):0<gc a b:=by
 have:=EU a (b:=b) (by lia)
 unfold gc
 lia
theorem va {a b:Int}(h:0<b):gc a b<=b:=Int.gcd_le_right a h
theorem qV {a:Int}(h:0<=a):gc a 0=a:=by
 unfold gc
 rw[Int.gcd_zero_right]
 lia
def ab (i:Int):Int:=if i<0 then -i else i
theorem xE (i:Int):0<=ab i:=by unfold ab;split <;> lia
theorem xF (a b:Int):gc (ab a) b=gc a b:=by
 unfold ab gc
 split
 ·rw[Int.neg_gcd]
 ·rfl
def rt (a b:Int):Int:=a/gc a b
def rb (a b:Int):Int:=b/gc a b
theorem zT (a b:Int):gc a b*rt a b=a:=Gf (Int.gcd_dvd_left a b)
theorem xG (a b:Int):gc a b*rb a b=b:=Gf (Int.gcd_dvd_right a b)
theorem j5 {a b:Int}(h:0<b):0<rb a b:=by
 have e:=xG a b
 have p:=iH (a:=a) h
 rcases Int.lt_trichotomy (rb a b) 0 with z | z | z
 ·have:=Int.mul_neg_of_pos_of_neg p z
  lia
 ·rw[z,Int.mul_zero] at e
  lia
 ·exact z
theorem zU {a b:Int}(h:0<b):gc (rt a b) (rb a b)=1:=by
 have p:0<Int.gcd a b:=EU a (by lia)
 unfold gc rt rb
 unfold gc
 rw[Int.gcd_ediv_gcd_ediv_gcd p]
 rfl
theorem f6 {g x y:Int}(h:0<g)(e:g*x=y):x.natAbs<=y.natAbs:=by
 rw[<- e,HI]
 exact Nat.le_mul_of_pos_left _ (by omega)
theorem m5 {a b:Int}(h:0<b):(rt a b).natAbs<=a.natAbs:=f6 (iH (a:=a) h) (zT a b)
theorem m6 {a b:Int}(h:0<b):(rb a b).natAbs<=b.natAbs:=f6 (iH (a:=a) h) (xG a b)
def Sm (i:Int):Prop:=i.natAbs<2 ^ 1000
theorem Sm.wd {i:Int}(h:Sm i):Wd i:=Ax h (Gg (by decide) (by decide))
theorem Sm.mul {i j:Int}(h:Sm i)(g:Sm j):Wd (i*j):=by
 unfold Wd
 rw[HI]
 have p:(2:Nat) ^ 1000*2 ^ 1000<=2 ^ 4000:=by
  rw[<- Nat.pow_add]
  exact Gg (by decide) (by decide)
 exact Ax (Nat.mul_lt_mul'' h g) p
theorem qW {i:Int}(h0 : -(10 ^ 61)<i)(h1:i<10 ^ 61):Sm i:=by
 unfold Sm
 have e:(10:Nat) ^ 61<=2 ^ 1000:=by decide +kernel
 have:i.natAbs<10 ^ 61:=by omega
 exact Ax this e
theorem iT {i j:Int}(h:Sm j)(g:i.natAbs<=j.natAbs):Sm i:=CG g h
theorem m7 (a:Int):rt a 1=a/\rb a 1=1:=by
 have g:gc a 1=1:=by
  have h0:=iH (a:=a) (b:=1) (by decide)
  have h1:=va (a:=a) (b:=1) (by decide)
  lia
 unfold rt rb
 rw[g]
 exact ⟨Int.ediv_one _,rfl⟩
theorem zV {a b:Int}:decide (V.int a=V.int b)=decide (a=b):=by
 rw[decide_eq_decide]
 exact ⟨λz=>V.int.inj z,λz=>by rw[z]⟩
def Two (K:z8)(H:Hp)(p:Addr)(a b:Int):Prop:=SqT K H p [.int a,.int b]
theorem Two.same {K:z8}{H H':Hp}{p:Addr}{a b:Int}(h:Two K H p a b)(s:aA H H'):Two K H' p a b:=by
 rcases h with (h | ⟨o,h⟩) | h
 ·exact .inl (.inl (s _ _ h))
 ·exact .inl (.inr ⟨o,s _ _ h⟩)
 ·exact .inr h
theorem at0 {a b:Int}:atI [V.int a,V.int b] 0=some (.int a):=rfl
theorem at1 {a b:Int}:atI [V.int a,V.int b] 1=some (.int b):=rfl
def j6 (a b:Int):Bool:=decide (1<=b) && decide (gc a b=1)
theorem iI {a b:Int}(h:0<b):j6 (rt a b) (rb a b)=true:=by
 unfold j6
 rw[decide_eq_true (show 1<=rb a b by have:=j5 (a:=a) h;lia),decide_eq_true (zU h)]
 rfl
abbrev vb:Sp:=λvs H Q _=>∃a b:Int,vs=[.int a,.int b]/\0<b/\Q (.int (gc a b)) H
@[irreducible] def qX:Sp:=vb
theorem iJ {vs:List V}{H:Hp}{Q:VK}{E:XK}:qX vs H Q E↔vb vs H Q E:=by
 delta qX
 exact Cp
section
variable  {P:Au}{w:AV}{K:z8}{mg:Str->Option z9}{base:Heap}{f T:Addr}{fd:A3}
theorem bU:aE ["one", "other", "rest"] ["one", "other"] (ak cY):=⟨rfl,rfl,rfl,by decide +kernel,rfl,by decide +kernel,by decide +kernel⟩
theorem iX (F:Fun K "common_divisor" "common_divisor" cY f fd)(B:Blt mg):a7 P w K mg base CX0 1 f fd ["one", "other"] qX:=by
 refine F.ok bU (λvs H Q E h =>?_) (λcdv A outer s H vs Q E hr h =>?_)
 ·obtain ⟨_,_,rfl,_⟩:=iJ.mp h
  rfl
 obtain ⟨a,b,rfl,h0,q⟩:=iJ.mp h
 refine ⟨_,(@ag _ _ _ _ _ (eI Bh (av jw (pv 1) ae (aJ _))
   (@ag _ _ _ _ _ (@ax _ _ 2 _ _ _ _ bU.nd rfl (Or.inl rfl) (@az _ _ _ _ _ _ _ _ bP (pv 0) (pv 1)) rfl (by first | exact .inl rfl | exact .inr rfl | assumption))
   (@ag _ _ _ _ _ (@ax _ _ 0 _ _ _ _ bU.nd rfl (Or.inl rfl) (pv 1) rfl (by first | exact .inl rfl | exact .inr rfl | assumption))
   (@aj _ _ _ (@ax _ _ 1 _ _ _ _ bU.nd rfl (Or.inl rfl) (pv 2) rfl (by first | exact .inl rfl | exact .inr rfl | assumption))))))
  (@aj _ _ _ (@aF _ _ _ _ (aB jA rfl B.b_abs pU (@aa _ _ _ _ _ (pv 0) af rfl))))),?_⟩
 refine eJ (λσ H'=>∃(x y:Int) (r:Option V),σ=[some (.int x),some (.int y),r]/\H'=H/\0<=y/\gc x y=gc a b/\(y=0->0<=x)) (λσ _=>match σ with | [_,some (.int y),_]=>y.toNat | _=>0) ⟨a,b,none,rfl,rfl,by lia,rfl,by lia⟩ ?_ ?_
 ·rintro σ H' ⟨x,y,r,rfl,rfl,y0,e,x0⟩
  refine ⟨_,rfl,rfl,_,rfl,dQ (λc =>?_) (λc =>?_)⟩
  ·have c':y≠0:=by simpa using c
   have yp:0<y:=by lia
   refine ⟨_,rfl,_,rfl,_,_,rfl,rfl,yp,_,rfl,_,rfl,⟨y,x%y,_,rfl,rfl,BU _ c',?_,λ_=>y0⟩,?_⟩
   ·rw[qU];exact e
   ·show (x%y).toNat<y.toNat
    have:=BP x yp
    have:=BU x c'
    lia
  ·have c':y=0:=by simpa using c
   subst c'
   refine ⟨_,rfl,x,rfl,?_⟩
   have:=x0 rfl
   rw[qV this] at e
   rw[<- e] at q
   rw[if_neg (by lia)]
   exact q
 ·rintro σ H' Q1 Q2 hQ ⟨v,e1,e2,b,e3,r⟩
  exact ⟨v,e1,e2,b,e3,hQ _ _ r⟩
end
@[irreducible] def kE (K:z8):Sp:=λvs H Q _=>∃a b:Int,vs=[.int a,.int b]/\0<b/\Wd b/\∀(p:Addr) (H':Hp),aA H H'->Two K H' p (rt a b) (rb a b)->Q (.ref p) H'
theorem bS {K:z8}{vs:List V}{H:Hp}{Q:VK}{E:XK}:kE K vs H Q E↔∃a b:Int,vs=[.int a,.int b]/\0<b/\Wd b/\∀(p:Addr) (H':Hp),aA H H'->Two K H' p (rt a b) (rb a b)->Q (.ref p) H':=by
 delta kE
 exact Cp
section
variable  {P:Au}{w:AV}{K:z8}{mg:Str->Option z9}{base:Heap}{f T:Addr}{fd:A3}
theorem lR:aE ["top", "bottom", "divisor"] ["top", "bottom"] (ak jX):=⟨rfl,rfl,rfl,by decide +kernel,rfl,by decide +kernel,by decide +kernel⟩
theorem sR (F:uL K "ratio_of" "ratio_of" jX f fd T)(B:Blt mg)(cCommonDivisor:Cal P w K mg base 1 "common_divisor" ["one", "other"] qX):a7 P w K mg base CX0 2 f fd ["top", "bottom"] (kE K):=by
 refine F.ok lR (λvs H Q E h =>?_) (λcdv A outer s H vs Q E hr h =>?_)
 ·obtain ⟨_,_,rfl,_⟩:=bS.mp h
  rfl
 obtain ⟨a,b,rfl,h0,hw,q⟩:=bS.mp h
 refine ⟨_,(@ag _ _ _ _ _ (@ax _ _ 2 _ _ _ _ lR.nd rfl (Or.inl rfl) (ay cCommonDivisor hr (by decide) rfl (@aa _ _ _ _ _ (pv 0) (@aa _ _ _ _ _ (pv 1) af rfl) rfl)) rfl (by first | exact .inl rfl | exact .inr rfl | assumption))
  (@aj _ _ _ (@aF _ _ _ _ (@bC _ _ _ _ _ (@aa _ _ _ _ _ (@az _ _ _ _ _ _ _ _ gR (pv 0) (pv 2)) (@aa _ _ _ _ _ (@az _ _ _ _ _ _ _ _ gR (pv 1) (pv 2)) af rfl) rfl))))),?_⟩
 refine ⟨_,rfl,_,rfl,iJ.mpr ⟨a,b,rfl,h0,?_⟩⟩
 have gp:=iH (a:=a) h0
 have gl:=va (a:=a) h0
 have gw:Wd (gc a b):=CG (by omega) hw
 refine ⟨_,rfl,_,rfl,_,_,rfl,rfl,⟨gp,gw⟩,_,rfl,_,rfl,_,_,rfl,rfl,⟨gp,gw⟩,(by show 2<=Ao;decide),λp hp =>?_⟩
 exact q p _ (ai hp _) (SqT.of ah)
end
@[irreducible] def vc (K:z8):Sp:=λvs H Q _=>∃(p r:Addr) (a b c d:Int),vs=[.ref p,.ref r]/\Two K H p a b/\Two K H r c d/\(0<b/\0<d)/\(Sm a/\Sm b/\Sm c/\Sm d)/\∀(z:Addr) (H':Hp),aA H H'->Two K H' z (rt (a*c) (b*d)) (rb (a*c) (b*d))->Q (.ref z) H'
theorem gY {K:z8}{vs:List V}{H:Hp}{Q:VK}{E:XK}:vc K vs H Q E↔∃(p r:Addr) (a b c d:Int),vs=[.ref p,.ref r]/\Two K H p a b/\Two K H r c d/\(0<b/\0<d)/\(Sm a/\Sm b/\Sm c/\Sm d)/\∀(z:Addr) (H':Hp),aA H H'->Two K H' z (rt (a*c) (b*d)) (rb (a*c) (b*d))->Q (.ref z) H':=by
 delta vc
 exact Cp
section
variable  {P:Au}{w:AV}{K:z8}{mg:Str->Option z9}{base:Heap}{f T:Addr}{fd:A3}
theorem m8:aE ["one", "other"] ["one", "other"] (ak eV):=⟨rfl,rfl,rfl,by decide +kernel,rfl,by decide +kernel,by decide +kernel⟩
theorem m9 (F:Fun K "ratio_times" "ratio_times" eV f fd)(B:Blt mg)(cRatioOf:Cal P w K mg base 2 "ratio_of" ["top", "bottom"] (kE K)):a7 P w K mg base CX0 3 f fd ["one", "other"] (vc K):=by
 refine F.ok m8 (λvs H Q E h =>?_) (λcdv A outer s H vs Q E hr h =>?_)
 ·obtain ⟨_,_,_,_,_,_,rfl,_⟩:=gY.mp h
  rfl
 obtain ⟨p,r,a,b,c,d,rfl,hp,hr',⟨h0,h1⟩,⟨sa,sb,sc,sd⟩,q⟩:=gY.mp h
 refine ⟨_,(@aj _ _ _ (@aF _ _ _ _ (ay cRatioOf hr (by decide) rfl (@aa _ _ _ _ _ (@az _ _ _ _ _ _ _ _ dY (@aq _ _ _ _ _ _ _ au (pv 0) ae (λ_ _=>rfl)) (@aq _ _ _ _ _ _ _ au (pv 1) ae (λ_ _=>rfl))) (@aa _ _ _ _ _ (@az _ _ _ _ _ _ _ _ dY (@aq _ _ _ _ _ _ _ au (pv 0) ae (λ_ _=>rfl)) (@aq _ _ _ _ _ _ _ au (pv 1) ae (λ_ _=>rfl))) af rfl) rfl)))),?_⟩
 refine ⟨_,rfl,p,_,0,_,rfl,rfl,hp,at0,_,rfl,r,_,0,_,rfl,rfl,hr',at0,_,_,rfl,rfl,⟨sa.wd,sc.wd⟩,
  _,rfl,p,_,1,_,rfl,rfl,hp,at1,_,rfl,r,_,1,_,rfl,rfl,hr',at1,_,_,rfl,rfl,⟨sb.wd,sd.wd⟩,bS.mpr ⟨_,_,rfl,Int.mul_pos h0 h1,sb.mul sd,λz H' sm t=>q z H' sm t⟩⟩
end
abbrev oO:Sp:=λvs H Q _=>∃i:Int,vs=[.int i]/\Q (.bl true) H
@[irreducible] def ji:Sp:=oO
theorem dg {vs:List V}{H:Hp}{Q:VK}{E:XK}:ji vs H Q E↔oO vs H Q E:=by
 delta ji
 exact Cp
section
variable  {P:Au}{w:AV}{K:z8}{mg:Str->Option z9}{base:Heap}{f T:Addr}{fd:A3}
theorem vd:aE ["found"] ["found"] (ak mO):=⟨rfl,rfl,rfl,by decide +kernel,rfl,by decide +kernel,by decide +kernel⟩
theorem ve (F:Fun K "_law_whole" "_law_whole" mO f fd)(B:Blt mg):a7 P w K mg base CX0 1 f fd ["found"] ji:=by
 refine F.ok vd (λvs H Q E h =>?_) (λcdv A outer s H vs Q E hr h =>?_)
 ·obtain ⟨_,rfl,_⟩:=dg.mp h
  rfl
 obtain ⟨a,rfl,q⟩:=dg.mp h
 refine ⟨_,(@aj _ _ _ (@aF _ _ _ _ (tq (aB eO rfl B.b_isinstance cD (@aa _ _ _ _ _ (pv 0) (@aa _ _ _ _ _ (iY (v :=.ty "int") rfl B.b_int yO rfl) af rfl) rfl)) (tm (xQ (aB eO rfl B.b_isinstance cD (@aa _ _ _ _ _ (pv 0) (@aa _ _ _ _ _ (iY (v :=.ty "bool") rfl B.b_bool wR rfl) af rfl) rfl))))))),?_⟩
 refine ⟨_,rfl,.int a, "int",_,true,rfl,.int a,rfl,_,rfl,a9 ?_⟩
 exact ⟨_,rfl,.int a, "bool",_,false,rfl,.int a,rfl,_,rfl,q⟩
end
abbrev qY:Sp:=λvs H Q _=>∃a b:Int,vs=[.int a,.int b]/\0<=a/\0<=b/\∀H',aA H H'->Q (.int (gc a b)) H'
@[irreducible] def j7:Sp:=qY
theorem eA {vs:List V}{H:Hp}{Q:VK}{E:XK}:j7 vs H Q E↔qY vs H Q E:=by
 delta j7
 exact Cp
section
variable  {P:Au}{w:AV}{K:z8}{mg:Str->Option z9}{base:Heap}{f T:Addr}{fd:A3}
theorem qZ:aE ["one", "other"] ["one", "other"] (ak pS):=⟨rfl,rfl,rfl,by decide +kernel,rfl,by decide +kernel,by decide +kernel⟩
theorem w4 (F:Fun K "_law_part" "_law_part" pS f fd)(B:Blt mg):a7 P w K mg base CX0 1 f fd ["one", "other"] j7:=by
 refine F.ok qZ (λvs H Q E h =>?_) (λcdv A outer s H vs Q E hr h =>?_)
 ·obtain ⟨_,_,rfl,_⟩:=eA.mp h
  rfl
 obtain ⟨a,b,rfl,a0,b0,q⟩:=eA.mp h
 refine ⟨_,(@ag _ _ _ _ _ (eI Bh (av nF (pv 1) ae (aJ _))
   (@aj _ _ _ (xU (i:=0) (j:=1) rfl qZ.nd rfl rfl (by decide) rfl rfl (@aa _ _ _ _ _ (pv 1) (@aa _ _ _ _ _ (@az _ _ _ _ _ _ _ _ bP (pv 0) (pv 1)) af rfl) rfl) rfl)))
  (@aj _ _ _ (@aF _ _ _ _ (pv 0)))),?_⟩
 refine eJ (λσ H'=>∃x y:Int,σ=[some (.int x),some (.int y)]/\aA H H'/\0<=x/\0<=y/\gc x y=gc a b) (λσ _=>match σ with | [_,some (.int y)]=>y.toNat | _=>0) ⟨a,b,rfl,aA.refl _,a0,b0,rfl⟩ ?_ ?_
 ·rintro σ H' ⟨x,y,rfl,sm,x0,y0,e⟩
  refine ⟨_,rfl,_,_,rfl,rfl,_,rfl,dQ (λc =>?_) (λc =>?_)⟩
  ·have yp:0<y:=of_decide_eq_true c
   refine ⟨_,rfl,_,rfl,_,rfl,_,_,rfl,rfl,yp,_,_,rfl,⟨y,x%y,rfl,sm,y0,BU _ (by lia),?_⟩,?_⟩
   ·rw[qU];exact e
   ·show (x%y).toNat<y.toNat
    have:=BP x yp
    have:=BU x (b:=y) (by lia)
    lia
  ·have c':y=0:=by
    have:¬ 0<y:=by simpa using c
    lia
   subst c'
   rw[qV x0] at e
   rw[<- e] at q
   exact ⟨_,rfl,q _ sm⟩
 ·rintro σ H' Q1 Q2 hQ ⟨v,e1,i,j,e2,e3,b,e4,r⟩
  exact ⟨v,e1,i,j,e2,e3,b,e4,hQ _ _ r⟩
end
@[irreducible] def q8 (K:z8):Sp:=λvs H Q _=>∃(p:Addr) (a b:Int),vs=[.ref p]/\Two K H p a b/\j6 a b=true/\∀H',aA H H'->Q (.bl true) H'
theorem fL {K:z8}{vs:List V}{H:Hp}{Q:VK}{E:XK}:q8 K vs H Q E↔∃(p:Addr) (a b:Int),vs=[.ref p]/\Two K H p a b/\j6 a b=true/\∀H',aA H H'->Q (.bl true) H':=by
 delta q8
 exact Cp
section
variable  {P:Au}{w:AV}{K:z8}{mg:Str->Option z9}{base:Heap}{f T:Addr}{fd:A3}
theorem p9:aE ["thing"] ["thing"] (ak iB):=⟨rfl,rfl,rfl,by decide +kernel,rfl,by decide +kernel,by decide +kernel⟩
theorem qa (F:Fun K "_law_is_ratio" "_law_is_ratio" iB f fd)(B:Blt mg)(cLWhole:Cal P w K mg base 1 "_law_whole" ["found"] ji)(cLPart:Cal P w K mg base 1 "_law_part" ["one", "other"] j7):a7 P w K mg base CX0 2 f fd ["thing"] (q8 K):=by
 refine F.ok p9 (λvs H Q E h =>?_) (λcdv A outer s H vs Q E hr h =>?_)
 ·obtain ⟨_,_,_,rfl,_⟩:=fL.mp h
  rfl
 obtain ⟨p,a,b,rfl,hp,lo,q⟩:=fL.mp h
 refine ⟨_,(@ag _ _ _ _ _ (@aZ _ _ _ _ _ _ _ _ (PW.pt (iL (hW (hJ (aB oA rfl B.b_isinstance cD (@aa _ _ _ _ _ (pv 0) (@aa _ _ _ _ _ (iY (v :=.ty "tuple") rfl B.b_tuple cn rfl) af rfl) rfl)))) (iL (av jw (aB aO rfl B.b_len bV (@aa _ _ _ _ _ (pv 0) af rfl)) ae (aJ _)) (iL (hW (hJ (ay cLWhole hr (by decide) rfl (@aa _ _ _ _ _ (@aq _ _ _ _ _ _ _ au (pv 0) ae (λ_ _=>rfl)) af rfl)))) (hV (hW (hJ (ay cLWhole hr (by decide) rfl (@aa _ _ _ _ _ (@aq _ _ _ _ _ _ _ au (pv 0) ae (λ_ _=>rfl)) af rfl))))))))) (@aj _ _ _ (@aF _ _ _ _ xq)) aM)
  (@aj _ _ _ (@aF _ _ _ _ (tq (ql nF (@aq _ _ _ _ _ _ _ au (pv 0) ae (λ_ _=>rfl)) ae (aJ _)) (tm (ql cp (ay cLPart hr (by decide) rfl (@aa _ _ _ _ _ (aB jA rfl B.b_abs pU (@aa _ _ _ _ _ (@aq _ _ _ _ _ _ _ au (pv 0) ae (λ_ _=>rfl)) af rfl)) (@aa _ _ _ _ _ (@aq _ _ _ _ _ _ _ au (pv 0) ae (λ_ _=>rfl)) af rfl) rfl)) ae (aJ _))))))),?_⟩
 refine ⟨_,rfl,p,_,rfl,hp,rfl,_,rfl,aX ?_⟩
 refine ⟨_,rfl,p,_,rfl,.inr hp,rfl,_,rfl,aX ?_⟩
 refine ⟨_,rfl,p,_,0,_,rfl,rfl,hp,at0,dg.mpr ⟨a,rfl,_,rfl,aX ?_⟩⟩
 refine ⟨_,rfl,p,_,1,_,rfl,rfl,hp,at1,dg.mpr ⟨b,rfl,_,rfl,aX ?_⟩⟩
 refine ⟨_,rfl,p,_,1,_,rfl,rfl,hp,at1,_,_,rfl,rfl,_,rfl,?_⟩
 unfold j6 at lo
 rw[BD] at lo
 have hb:=of_decide_eq_true lo.1
 rw[decide_eq_true (show (0:Int)<b by omega)]
 refine a9 ⟨_,rfl,p,_,0,_,rfl,rfl,hp,at0,a,rfl,_,rfl,p,_,1,_,rfl,rfl,hp,at1,eA.mpr ⟨ab a,b,rfl,xE a,by omega,λH1 s1=>⟨rfl,?_⟩⟩⟩
 rw[xF,zV,lo.2]
 exact q _ s1
end
section
variable  {P:Au}{w:AV}{K:z8}{mg:Str->Option z9}{base:Heap}{f T:Addr}{fd:A3}
theorem lS:aE ["top", "bottom", "part"] ["top", "bottom"] (ak j0):=⟨rfl,rfl,rfl,by decide +kernel,rfl,by decide +kernel,by decide +kernel⟩
theorem sS (F:Fun K "_law_lowest" "_law_lowest" j0 f fd)(B:Blt mg)(cLPart:Cal P w K mg base 1 "_law_part" ["one", "other"] j7):a7 P w K mg base CX0 2 f fd ["top", "bottom"] (kE K):=by
 refine F.ok lS (λvs H Q E h =>?_) (λcdv A outer s H vs Q E hr h =>?_)
 ·obtain ⟨_,_,rfl,_⟩:=bS.mp h
  rfl
 obtain ⟨a,b,rfl,h0,hw,q⟩:=bS.mp h
 refine ⟨_,(@ag _ _ _ _ _ (@ax _ _ 2 _ _ _ _ lS.nd rfl (Or.inl rfl) (ay cLPart hr (by decide) rfl (@aa _ _ _ _ _ (aB jA rfl B.b_abs pU (@aa _ _ _ _ _ (pv 0) af rfl)) (@aa _ _ _ _ _ (pv 1) af rfl) rfl)) rfl (by first | exact .inl rfl | exact .inr rfl | assumption))
  (@aj _ _ _ (@aF _ _ _ _ (@bC _ _ _ _ _ (@aa _ _ _ _ _ (@az _ _ _ _ _ _ _ _ gR (pv 0) (pv 2)) (@aa _ _ _ _ _ (@az _ _ _ _ _ _ _ _ gR (pv 1) (pv 2)) af rfl) rfl))))),?_⟩
 refine ⟨_,rfl,a,rfl,_,rfl,eA.mpr ⟨ab a,b,rfl,xE a,by lia,λH1 s1 =>?_⟩⟩
 rw[xF]
 have gp:=iH (a:=a) h0
 have gl:=va (a:=a) h0
 have gw:Wd (gc a b):=CG (by lia) hw
 refine ⟨_,rfl,_,rfl,_,_,rfl,rfl,⟨gp,gw⟩,_,rfl,_,rfl,_,_,rfl,rfl,⟨gp,gw⟩,(by show 2<=Ao;decide),λp hp =>?_⟩
 exact q p _ (s1.trans (ai hp _)) (SqT.of ah)
end
open PySem L2
theorem j8 {α:Type}{f:α -> Addr}{us:List α}{i:Nat}{x:V}(e:(us.map λu=>V.ref (f u))[i]? = some x):∃u,us[i]? = some u/\x = .ref (f u):=by
 rw[Aw] at e
 cases h:us[i]? with
 | none=>rw[h] at e;cases e
 | some u=>rw[h] at e;exact ⟨u,rfl,(AI e).symm⟩
theorem w64:Wd ((10:Int) ^ (64:Int).toNat):=by unfold Wd;decide +kernel
theorem w128:Wd ((10:Int) ^ (64:Int).toNat*(10:Int) ^ (64:Int).toNat):=by unfold Wd;decide +kernel
theorem w192:Wd ((10:Int) ^ (64:Int).toNat*(10:Int) ^ (64:Int).toNat*(10:Int) ^ (64:Int).toNat):=by unfold Wd;decide +kernel
theorem p256:(0:Int)<(10:Int) ^ (64:Int).toNat*(10:Int) ^ (64:Int).toNat*(10:Int) ^ (64:Int).toNat*(10:Int) ^ (64:Int).toNat:=by decide +kernel
theorem fM {c A:Prop}[Decidable c]{P:St->Hp->Prop}{σ:St}{H:Hp}(G:St->Hp->Prop)(hP:∀σ' H',G σ' H'->P σ' H')(h1:(∀σ' H',G σ' H'->P σ' H')->c->A)(h2:¬ c->G σ H):if c then A else P σ H:=by
 by_cases h:c
 ·rw[if_pos h];exact h1 hP h
 ·rw[if_neg h];exact hP σ H (h2 h)
theorem lT {b1:Bool}{U:Hp->(Bool->Hp->Prop)->Prop}{A:Hp->Prop}{P:St->Hp->Prop}{σ:St}{H5:Hp}(G:St->Hp->Prop)(hP:∀σ' H',G σ' H'->P σ' H')(h:(∀σ' H',G σ' H'->P σ' H')->b1=true->U H5 λb H1=>if b=true then A H1 else P σ H1)(h2:G σ H5):if b1=true then U H5 (λb H1=>if b=true then A H1 else P σ H1) else (λb H1=>if b=true then A H1 else P σ H1) false H5:=by
 cases b1 with
 | true=>rw[if_pos rfl];exact h hP rfl
 | false=>rw[if_neg Ak];exact aX (hP _ _ h2)
theorem nc {p l:Addr}{H:Hp}(hp:Pt 2 H p)(hl:H l=none):l≠p:=λz=>by
 obtain ⟨xs,_,e⟩:=hp
 rw[z,e] at hl;cases hl
theorem vg {p l:Addr}{H H':Hp}(b:Bu 2 p H H')(hl:H' l=none)(n:l≠p):H l=none:=by
 cases h:H l with
 | none=>rfl
 | some o=>rw[b.st _ _ n h] at hl;cases hl
theorem Wb.bu {H H':Hp}{p r:Addr}{m:Int}{ts:List (Addr×List Int)}(W:Wb H r m ts)(b:Bu 2 p H H')(hp:Pt 2 H p):Wb H' r m ts:=W.tp λc u h=>b.tup hp h
theorem Two.bu {K:z8}{H H':Hp}{p q:Addr}{x y:Int}(h:Two K H q x y)(b:Bu 2 p H H')(hp:Pt 2 H p):Two K H' q x y:=by
 rcases h with (h | ⟨o,h⟩) | h
 ·exact .inl (.inl (b.tup hp h))
 ·refine .inl (.inr ⟨o,b.st _ _ (λz =>?_) h⟩)
  obtain ⟨xs,_,e⟩:=hp
  rw[z,e] at h;cases h
 ·exact .inr h
@[irreducible] def ng (K:z8):Sp:=λvs H Q _=>∃(a:Addr) (ns:List Int) (k:Int),vs=[.ref a,.int k]/\SqL K H a (ns.map V.int)/\0<=k/\k<100/\∀(x y:Int) (p:Addr),H p=none->Q (.ref p) (upd H p (.lst [.int x,.int y]))
theorem gy {K:z8}{vs:List V}{H:Hp}{Q:VK}{E:XK}:ng K vs H Q E↔∃(a:Addr) (ns:List Int) (k:Int),vs=[.ref a,.int k]/\SqL K H a (ns.map V.int)/\0<=k/\k<100/\∀(x y:Int) (p:Addr),H p=none->Q (.ref p) (upd H p (.lst [.int x,.int y])):=by
 delta ng
 exact Cp
section
variable  {P:Au}{w:AV}{K:z8}{mg:Str->Option z9}{base:Heap}{f T:Addr}{fd:A3}
theorem nh:aE ["script", "k", "cell"] ["script", "k"] (ak pQ):=⟨rfl,rfl,rfl,by decide +kernel,rfl,by decide +kernel,by decide +kernel⟩
theorem w5 (F:Fun K "_law_deal" "_law_deal" pQ f fd)(B:Blt mg):a7 P w K mg base CX0 1 f fd ["script", "k"] (ng K):=by
 refine F.ok nh (λvs H Q E h =>?_) (λcdv A outer s H vs Q E hr h =>?_)
 ·obtain ⟨_,_,_,rfl,_⟩:=gy.mp h
  rfl
 obtain ⟨a,ns,k,rfl,hS,h0,h1,q⟩:=gy.mp h
 refine ⟨_,(@ag _ _ _ _ _ (@ax _ _ 2 _ _ _ _ nh.nd rfl (Or.inl rfl) ae rfl (by first | exact .inl rfl | exact .inr rfl | assumption))
  (@ag _ _ _ _ _ (@aZ _ _ _ _ _ _ _ _ (av tL (pv 1) (aB aO rfl B.b_len bV (@aa _ _ _ _ _ (pv 0) af rfl)) (aJ _)) (@aj _ _ _ (@ax _ _ 2 _ _ _ _ nh.nd rfl (Or.inl rfl) (@az _ _ _ _ _ _ _ _ bP (@aq _ _ _ _ _ _ _ bq (pv 0) (pv 1) (λ_ _=>rfl)) (@az _ _ _ _ _ _ _ _ dY (@az _ _ _ _ _ _ _ _ dY (@az _ _ _ _ _ _ _ _ dY (@az _ _ _ _ _ _ _ _ eK ae ae) (@az _ _ _ _ _ _ _ _ eK ae ae)) (@az _ _ _ _ _ _ _ _ eK ae ae)) (@az _ _ _ _ _ _ _ _ eK ae ae))) rfl (by first | exact .inl rfl | exact .inr rfl | assumption))) aM)
  (@aj _ _ _ (@aF _ _ _ _ (@cJ _ _ _ _ (@aa _ _ _ _ _ (aB (fz rfl) rfl B.b_max j1 (@aa _ _ _ _ _ ae (@aa _ _ _ _ _ (@az _ _ _ _ _ _ _ _ gh (pv 2) (@az _ _ _ _ _ _ _ _ eK ae ae)) af rfl) rfl)) (@aa _ _ _ _ _ (@az _ _ _ _ _ _ _ _ bP (@az _ _ _ _ _ _ _ _ hZ (@az _ _ _ _ _ _ _ _ bh (@az _ _ _ _ _ _ _ _ bh (@az _ _ _ _ _ _ _ _ bP (pv 2) ae) (@az _ _ _ _ _ _ _ _ hZ ae (pv 1))) ae) ae) ae) af rfl) rfl)))))),?_⟩
 refine ⟨_,rfl,_,rfl,a,_,rfl,.inl hS,_,_,rfl,rfl,_,rfl,dQ (λc =>?_) (λc =>?_)⟩
 ·have c':k<((ns.map V.int).length:Int):=of_decide_eq_true c
  rw[z4] at c'
  obtain ⟨n,rfl⟩:∃n:Nat,k=n:=⟨k.toNat,by lia⟩
  obtain ⟨v,hat⟩:∃v,atI (ns.map V.int) (n:Int)=some (.int v):=⟨ns[n]'(by lia),by
   refine cN ?_
   rw[Aw,Ab (show n<ns.length by lia)]
   rfl⟩
  refine ⟨_,rfl,_,rfl,a,_,n,_,rfl,rfl,hS,hat,_,_,rfl,rfl,⟨by decide,by decide,by decide⟩,_,_,rfl,rfl,⟨by decide,by decide,by decide⟩,_,_,rfl,rfl,⟨w64,w64⟩,_,_,rfl,rfl,⟨by decide,by decide,by decide⟩,_,_,rfl,rfl,⟨w128,w64⟩,
   _,_,rfl,rfl,⟨by decide,by decide,by decide⟩,_,_,rfl,rfl,⟨w192,w64⟩,_,_,rfl,rfl,p256,?_⟩
  refine ⟨_,rfl,_,_,rfl,rfl,⟨by decide,by decide,by decide⟩,_,_,rfl,rfl,_,_,rfl,_,rfl,_,_,rfl,rfl,(by show (0:Int)<_;decide),_,rfl,_,_,rfl,rfl,.inl ⟨by decide,by decide⟩,_,_,rfl,rfl,_,_,rfl,rfl,_,_,rfl,rfl,.inr ⟨by decide,by decide⟩,_,_,rfl,rfl,(by show (0:Int)<_;decide),
   (by show 2<=Ao;decide),λp hp=>q _ _ p hp⟩
 ·refine ⟨_,rfl,_,_,rfl,rfl,⟨by decide,by decide,by decide⟩,_,_,rfl,rfl,_,_,rfl,_,rfl,_,_,rfl,rfl,(by show (0:Int)<_;decide),_,rfl,_,_,rfl,rfl,.inl ⟨by decide,by decide⟩,_,_,rfl,rfl,_,_,rfl,rfl,_,_,rfl,rfl,.inr ⟨by decide,by decide⟩,_,_,rfl,rfl,(by show (0:Int)<_;decide),
   (by show 2<=Ao;decide),λp hp=>q _ _ p hp⟩
end
abbrev q9:Sp:=λvs H Q _=>∃(p:Addr) (m:Int),vs=[.ref p,.int m]/\Pt 2 H p/\0<m/\m<1073741824/\∀(r:Int) (H':Hp),0<=r->r<m->Bu 2 p H H'->Q (.int r) H'
@[irreducible] def dr:Sp:=q9
theorem aK {vs:List V}{H:Hp}{Q:VK}{E:XK}:dr vs H Q E↔q9 vs H Q E:=by
 delta dr
 exact Cp
section
variable  {P:Au}{w:AV}{K:z8}{mg:Str->Option z9}{base:Heap}{f T:Addr}{fd:A3}
theorem ra:aE ["pot", "many", "found"] ["pot", "many"] (ak pR):=⟨rfl,rfl,rfl,by decide +kernel,rfl,by decide +kernel,by decide +kernel⟩
theorem w6 (F:Fun K "_law_take" "_law_take" pR f fd)(B:Blt mg):a7 P w K mg base CX0 1 f fd ["pot", "many"] dr:=by
 refine F.ok ra (λvs H Q E h =>?_) (λcdv A outer s H vs Q E hr h =>?_)
 ·obtain ⟨_,_,rfl,_⟩:=aK.mp h
  rfl
 obtain ⟨p,m,rfl,hp0,h0,h1,q⟩:=aK.mp h
 refine ⟨_,(@ag _ _ _ _ _ (@aZ _ _ _ _ _ _ _ _ (av nF (@aq _ _ _ _ _ _ _ bq (pv 0) ae (λ_ _=>rfl)) ae (aJ _)) (@ag _ _ _ _ _ (@ax _ _ 2 _ _ _ _ ra.nd rfl (Or.inl rfl) (@az _ _ _ _ _ _ _ _ bP (@aq _ _ _ _ _ _ _ bq (pv 0) ae (λ_ _=>rfl)) (pv 1)) rfl (by first | exact .inl rfl | exact .inr rfl | assumption))
   (@ag _ _ _ _ _ (@f9 _ _ _ _ _ _ (@az _ _ _ _ _ _ _ _ mh (@aq _ _ _ _ _ _ _ bq (pv 0) ae (λ_ _=>rfl)) (pv 1)) (mf (pv 0) ae set_list) rfl rfl rfl)
   (@aj _ _ _ (@aF _ _ _ _ (pv 2))))) aM)
  (@ag _ _ _ _ _ (@f9 _ _ _ _ _ _ (@az _ _ _ _ _ _ _ _ bP (@az _ _ _ _ _ _ _ _ bh (@az _ _ _ _ _ _ _ _ hZ (@aq _ _ _ _ _ _ _ bq (pv 0) ae (λ_ _=>rfl)) ae) ae) ae) (mf (pv 0) ae set_list) rfl rfl rfl)
  (@aj _ _ _ (@aF _ _ _ _ (@az _ _ _ _ _ _ _ _ bP (@az _ _ _ _ _ _ _ _ mh (@az _ _ _ _ _ _ _ _ bP (@az _ _ _ _ _ _ _ _ hZ (@aq _ _ _ _ _ _ _ bq (pv 0) ae (λ_ _=>rfl)) (@aq _ _ _ _ _ _ _ bq (pv 0) ae (λ_ _=>rfl))) ae) ae) (pv 1)))))),?_⟩
 have bt:=Bu.refl hp0
 obtain ⟨xs,lx,hp⟩:=hp0
 match xs,lx with
 | [x,y],_ =>
  refine ⟨_,rfl,p,_,0,_,rfl,rfl,SqL.of hp,rfl,_,_,rfl,rfl,_,rfl,dQ (λc =>?_) (λc =>?_)⟩
  ·refine ⟨_,rfl,p,_,0,_,rfl,rfl,SqL.of hp,rfl,_,rfl,_,_,rfl,rfl,h0,?_⟩
   refine ⟨_,rfl,p,_,0,_,rfl,rfl,SqL.of hp,rfl,_,rfl,_,_,rfl,rfl,⟨h0,h1⟩,_,rfl,p,_,0,0,rfl,rfl,hp,rfl,?_⟩
   refine ⟨_,rfl,?_⟩
   exact q _ _ (BU _ (by lia)) (BP _ h0) (bt.put (ys:=[x/m,y]) rfl)
  ·refine ⟨_,rfl,p,_,1,_,rfl,rfl,SqL.of hp,rfl,_,_,rfl,rfl,.inr ⟨by decide,by decide⟩,_,_,rfl,rfl,_,_,rfl,rfl,(by show (0:Int)<_;decide),_,rfl,p,_,1,1,rfl,rfl,hp,rfl,?_⟩
   dsimp only
   have b1:=BU (y*69621+12345) (b:=2147483647) (by decide)
   have b2:=BP (y*69621+12345) (b:=2147483647) (by decide)
   generalize (y*69621+12345)%2147483647=z at b1 b2 ⊢
   have e:(([x,y].map V.int).set 1 (V.int z))=[x,z].map V.int:=rfl
   rw[e]
   refine ⟨_,rfl,p,_,1,_,rfl,rfl,SqL.of ah,rfl,_,rfl,p,_,1,_,rfl,rfl,SqL.of ah,rfl,_,_,rfl,rfl,.inl ⟨by lia,by lia⟩,_,_,rfl,rfl,(by show (0:Int)<_;decide),_,_,rfl,rfl,⟨by decide,by decide⟩,_,rfl,_,_,rfl,rfl,h0,?_⟩
   exact q _ _ (BU _ (by lia)) (BP _ h0) (bt.put (ys:=[x,z]) rfl)
end
abbrev vh:Sp:=λvs H Q _=>∃(p:Addr),vs=[.ref p]/\Pt 2 H p/\∀(r:Int) (H':Hp),0<=r->r<10 ^ 60->Bu 2 p H H'->Q (.int r) H'
@[irreducible] def rf:Sp:=vh
theorem fN {vs:List V}{H:Hp}{Q:VK}{E:XK}:rf vs H Q E↔vh vs H Q E:=by
 delta rf
 exact Cp
section
variable  {P:Au}{w:AV}{K:z8}{mg:Str->Option z9}{base:Heap}{f T:Addr}{fd:A3}
theorem ni:aE ["pot", "found", "turn"] ["pot"] (ak uT):=⟨rfl,rfl,rfl,by decide +kernel,rfl,by decide +kernel,by decide +kernel⟩
theorem yV (F:Fun K "_law_big" "_law_big" uT f fd)(B:Blt mg)(cLTake:Cal P w K mg base 1 "_law_take" ["pot", "many"] dr):a7 P w K mg base CX0 2 f fd ["pot"] rf:=by
 refine F.ok ni (λvs H Q E h =>?_) (λcdv A outer s H vs Q E hr h =>?_)
 ·obtain ⟨_,rfl,_⟩:=fN.mp h
  rfl
 obtain ⟨p,rfl,hp,q⟩:=fN.mp h
 refine ⟨_,(@ag _ _ _ _ _ (@ax _ _ 1 _ _ _ _ ni.nd rfl (Or.inl rfl) ae rfl (by first | exact .inl rfl | exact .inr rfl | assumption))
  (@ag _ _ _ _ _ (@cf _ _ _ _ _ _ _ _ Bh rfl (bB rfl B.b_range (@aa _ _ _ _ _ ae af rfl)) (aH (i:=2) ni.nd rfl (Or.inl rfl))
   (@aj _ _ _ (@ax _ _ 1 _ _ _ _ ni.nd rfl (Or.inl rfl) (@az _ _ _ _ _ _ _ _ bh (@az _ _ _ _ _ _ _ _ hZ (pv 1) (@az _ _ _ _ _ _ _ _ eK ae ae)) (ay cLTake hr (by decide) rfl (@aa _ _ _ _ _ (pv 0) (@aa _ _ _ _ _ (@az _ _ _ _ _ _ _ _ eK ae ae) af rfl) rfl))) rfl (by first | exact .inl rfl | exact .inr rfl | assumption))) (λ_=>rfl))
  (@aj _ _ _ (@aF _ _ _ _ (@az _ _ _ _ _ _ _ _ bP (pv 1) (@az _ _ _ _ _ _ _ _ gh (@az _ _ _ _ _ _ _ _ eK ae ae) ae)))))),?_⟩
 refine ⟨_,rfl,by decide,by decide,cu (λk σ H'=>(∃(g:Int) (lv:Option V),σ=[some (.ref p),some (.int g),lv])/\Bu 2 p H H') ⟨⟨0,none,rfl⟩,Bu.refl hp⟩ ?_ ?_⟩
 ·rintro k σ H' hk ⟨⟨g,lv,rfl⟩,bt⟩
  refine ⟨_,rfl,_,_,rfl,rfl,⟨by decide,by decide,by decide⟩,_,_,rfl,rfl,.inr ⟨by decide,by decide⟩,_,rfl,_,_,rfl,rfl,⟨by decide,by decide,by decide⟩,aK.mpr ⟨p,_,rfl,bt.pot,by decide,by decide,λr H2 r0 r1 b2 =>?_⟩⟩
  exact ⟨_,_,rfl,rfl,⟨_,some (.int (0+k)),rfl⟩,bt.trans b2⟩
 ·rintro σ H' ⟨⟨g,lv,rfl⟩,bt⟩
  refine ⟨_,rfl,_,_,rfl,rfl,⟨by decide,by decide,by decide⟩,_,_,rfl,rfl,_,_,rfl,rfl,(by show (0:Int)<(10:Int) ^ (60:Int).toNat-1;decide),?_⟩
  have e:(10:Int) ^ (60:Int).toNat-1=10 ^ 60-1:=rfl
  dsimp only
  rw[e]
  have b1:=BU g (b:=10 ^ 60-1) (by decide)
  have b2:=BP g (b:=10 ^ 60-1) (by decide)
  exact q _ _ b1 (by lia) bt
end
theorem at4 {d:Int}(d0:0<=d)(d1:d<4):∃v:Int,atI [V.int 4,V.int 2,V.int 3,V.int 1] d=some (.int v):=by
 obtain rfl | rfl | rfl | rfl:d=0\/d=1\/d=2\/d=3:=by lia
 all_goals exact ⟨_,rfl⟩
abbrev rh:Sp:=λvs H Q _=>∃(p:Addr) (m:Nat),vs=[.ref p,.int m]/\Pt 2 H p/\m<=40/\∀(k:Addr) (Z:List Int) (H':Hp),Bu 2 p H H'->H' k=some (.tup (Z.map V.int))->(∀v∈Z,0<=v/\v<m)->Z.length<=m->Q (.ref k) H'
@[irreducible] def nj:Sp:=rh
theorem gz {vs:List V}{H:Hp}{Q:VK}{E:XK}:nj vs H Q E↔rh vs H Q E:=by
 delta nj
 exact Cp
section
variable  {P:Au}{w:AV}{K:z8}{mg:Str->Option z9}{base:Heap}{f T:Addr}{fd:A3}
theorem f7:aE ["pot", "many", "share"] ["pot", "many"] (ak dZ):=⟨rfl,rfl,rfl,by decide +kernel,rfl,by decide +kernel,by decide +kernel⟩
theorem cH:(["place", "pot", "share"]:List Str).Nodup:=by decide +kernel
theorem kF (F:Fun K "_law_some_places" "_law_some_places" dZ f fd)(B:Blt mg)(cLTake:Cal P w K mg base 1 "_law_take" ["pot", "many"] dr):a7 P w K mg base CX0 2 f fd ["pot", "many"] nj:=by
 refine F.ok f7 (λvs H Q E h =>?_) (λcdv A outer s H vs Q E hr h =>?_)
 ·obtain ⟨_,_,rfl,_⟩:=gz.mp h
  rfl
 obtain ⟨p,m,rfl,hp,m4,q⟩:=gz.mp h
 refine ⟨_,(@ag _ _ _ _ _ (@ax _ _ 2 _ _ _ _ f7.nd rfl (Or.inr rfl) (@aq _ _ _ _ _ _ _ au (@bC _ _ _ _ _ (@aa _ _ _ _ _ ae (@aa _ _ _ _ _ ae (@aa _ _ _ _ _ ae (@aa _ _ _ _ _ ae af rfl) rfl) rfl) rfl)) (ay cLTake hr (by decide) rfl (@aa _ _ _ _ _ (pv 0) (@aa _ _ _ _ _ ae af rfl) rfl)) (λ_ _=>rfl)) rfl (by first | exact .inl rfl | exact .inr rfl | assumption))
  (@aj _ _ _ (@aF _ _ _ _ (bj aY rfl B.b_tuple cn (@aa _ _ _ _ _ (cj ["place", "pot", "share"] [none,some 0,some 2] rfl (bB rfl B.b_range (@aa _ _ _ _ _ (pv 1) af rfl)) rfl (λ_ _ _ _ _=>(aH (i:=0) cH rfl (Or.inl rfl))) (λ_ _ _ _ _=>(dS (av tL (ay cLTake hr (by decide) rfl (@aa _ _ _ _ _ (pv 1) (@aa _ _ _ _ _ ae af rfl) rfl)) (pv 2) (aJ _)))) (λ_ _ _ _ _=>(pv 0))) af rfl))))),?_⟩
 refine ⟨(by show 4<=Ao;decide),λt ht =>?_⟩
 have nt:=nc hp ht
 have b0:=(Bu.refl hp).same (ai ht (.tup [.int 4,.int 2,.int 3,.int 1]))
 have et:upd H t (.tup [.int 4,.int 2,.int 3,.int 1]) t=some (.tup [.int 4,.int 2,.int 3,.int 1]):=ah
 generalize upd H t (.tup [.int 4,.int 2,.int 3,.int 1])=H0 at b0 et
 refine ⟨_,rfl,aK.mpr ⟨p,4,rfl,b0.pot,by decide,by decide,λd H1 d0 d1 b1 =>?_⟩⟩
 obtain ⟨sh,hsh⟩:=at4 d0 d1
 refine ⟨t,_,d,_,rfl,rfl,SqT.of (b1.st _ _ nt et),hsh,?_⟩
 refine ⟨_,rfl,(m:Int),rfl,by lia,by lia,cF (λi ys H'=>Bu 2 p H H'/\∃ws:List Int,ys=ws.map V.int/\(∀v∈ws,0<=v/\v<m)/\ws.length<=i) ⟨b0.trans b1,[],rfl,(λv h=>nomatch h),Ag _⟩ (cy (by lia)) ?_ ?_⟩
 ·rintro i ys H3 hi _ ⟨b3,ws,rfl,aw,lw⟩ R1 R0 r1 r0
  refine ⟨_,rfl,(aK (E:=E0)).mpr ⟨p,4,rfl,b3.pot,by decide,by decide,λx H4 x0 x1 b4=>⟨_,rfl,_,_,rfl,rfl,_,rfl,dQ (λz =>?_) λz =>?_⟩⟩⟩
  ·refine ⟨_,rfl,r1 _ _ ⟨b3.trans b4,ws++[0+(i:Int)],by rw[AE];rfl,λv hv =>?_,by rw[Ae];show _+1<=_;lia⟩⟩
   rcases As.mp hv with z | z
   ·exact aw v z
   ·rw[Ah.mp z];lia
  ·exact r0 _ ⟨b3.trans b4,ws,rfl,aw,by lia⟩
 ·rintro ys H3 _ ⟨b3,ws,rfl,aw,lw⟩ l hl
  have s4:=ai hl (.lst (ws.map V.int))
  refine ⟨l,_,rfl,.inl ⟨SqL.of ah,λk hk=>q k ws _ ((b3.same s4).same (ai hk _)) ah aw (by lia)⟩⟩
end
@[irreducible] def w9 (K:z8):Sp:=λvs H Q _=>∃(p:Addr),vs=[.ref p]/\Pt 2 H p/\∀(z:Addr) (a b:Int) (H':Hp),Bu 2 p H H'->Two K H' z (rt a b) (rb a b)->0<b->Sm a->Sm b->Q (.ref z) H'
theorem j9 {K:z8}{vs:List V}{H:Hp}{Q:VK}{E:XK}:w9 K vs H Q E↔∃(p:Addr),vs=[.ref p]/\Pt 2 H p/\∀(z:Addr) (a b:Int) (H':Hp),Bu 2 p H H'->Two K H' z (rt a b) (rb a b)->0<b->Sm a->Sm b->Q (.ref z) H':=by
 delta w9
 exact Cp
section
variable  {P:Au}{w:AV}{K:z8}{mg:Str->Option z9}{base:Heap}{f T:Addr}{fd:A3}
theorem fk:aE ["pot", "top", "bottom"] ["pot"] (ak mQ):=⟨rfl,rfl,rfl,by decide +kernel,rfl,by decide +kernel,by decide +kernel⟩
theorem vi (F:Fun K "_law_share" "_law_share" mQ f fd)(B:Blt mg)(cLLowest:Cal P w K mg base 2 "_law_lowest" ["top", "bottom"] (kE K))(cLTake:Cal P w K mg base 1 "_law_take" ["pot", "many"] dr)(cLBig:Cal P w K mg base 2 "_law_big" ["pot"] rf):a7 P w K mg base CX0 3 f fd ["pot"] (w9 K):=by
 refine F.ok fk (λvs H Q E h =>?_) (λcdv A outer s H vs Q E hr h =>?_)
 ·obtain ⟨_,rfl,_⟩:=j9.mp h
  rfl
 obtain ⟨p,rfl,hp,q⟩:=j9.mp h
 refine ⟨_,(@ag _ _ _ _ _ (@ax _ _ 1 _ _ _ _ fk.nd rfl (Or.inl rfl) (@az _ _ _ _ _ _ _ _ bh ae (ay cLTake hr (by decide) rfl (@aa _ _ _ _ _ (pv 0) (@aa _ _ _ _ _ ae af rfl) rfl))) rfl (by first | exact .inl rfl | exact .inr rfl | assumption))
  (@ag _ _ _ _ _ (@ax _ _ 2 _ _ _ _ fk.nd rfl (Or.inl rfl) (@az _ _ _ _ _ _ _ _ bh ae (ay cLTake hr (by decide) rfl (@aa _ _ _ _ _ (pv 0) (@aa _ _ _ _ _ ae af rfl) rfl))) rfl (by first | exact .inl rfl | exact .inr rfl | assumption))
  (@ag _ _ _ _ _ (@aZ _ _ _ _ _ _ _ _ (av cp (ay cLTake hr (by decide) rfl (@aa _ _ _ _ _ (pv 0) (@aa _ _ _ _ _ ae af rfl) rfl)) ae (aJ _)) (@ag _ _ _ _ _ (@ax _ _ 1 _ _ _ _ fk.nd rfl (Or.inl rfl) (@az _ _ _ _ _ _ _ _ bh ae (ay cLBig hr (by decide) rfl (@aa _ _ _ _ _ (pv 0) af rfl))) rfl (by first | exact .inl rfl | exact .inr rfl | assumption))
   (@aj _ _ _ (@ax _ _ 2 _ _ _ _ fk.nd rfl (Or.inl rfl) (@az _ _ _ _ _ _ _ _ bh ae (ay cLBig hr (by decide) rfl (@aa _ _ _ _ _ (pv 0) af rfl))) rfl (by first | exact .inl rfl | exact .inr rfl | assumption)))) aM)
  (@aj _ _ _ (@aF _ _ _ _ (ay cLLowest hr (by decide) rfl (@aa _ _ _ _ _ (pv 1) (@aa _ _ _ _ _ (pv 2) af rfl) rfl))))))),?_⟩
 refine ⟨_,rfl,aK.mpr ⟨p,9,rfl,hp,by decide,by decide,λd1 H1 x0 x1 b1=>⟨_,_,rfl,rfl,?_⟩⟩⟩
 refine ⟨_,rfl,aK.mpr ⟨p,6,rfl,b1.pot,by decide,by decide,λd2 H2 y0 y1 b2=>⟨_,_,rfl,rfl,?_⟩⟩⟩
 refine ⟨_,rfl,aK.mpr ⟨p,5,rfl,b2.pot,by decide,by decide,λd3 H3 z0 z1 b3=>⟨rfl,_,rfl,?_⟩⟩⟩
 have b123:=(b1.trans b2).trans b3
 refine fM (λσ H'=>(∃a b:Int,σ=[some (.ref p),some (.int a),some (.int b)]/\0<b/\Sm a/\Sm b)/\Bu 2 p H H') ?_ (λhP z =>?_) λz=>⟨⟨1+d1,1+d2,rfl,by lia,qW (by lia) (by lia),qW (by lia) (by lia)⟩,b123⟩
 ·rintro σ H' ⟨⟨a,b,rfl,h0,sa,sb⟩,b'⟩
  exact ⟨_,rfl,_,rfl,bS.mpr ⟨a,b,rfl,h0,sb.wd,λz H4 s4 t4=>q z a b H4 (b'.same s4) t4 h0 sa sb⟩⟩
 ·refine ⟨_,rfl,fN.mpr ⟨p,rfl,b3.pot,λu H4 u0 u1 b4=>⟨_,_,rfl,rfl,?_⟩⟩⟩
  refine ⟨_,rfl,fN.mpr ⟨p,rfl,b4.pot,λv H5 v0 v1 b5=>⟨_,_,rfl,rfl,?_⟩⟩⟩
  exact hP _ _ ⟨⟨1+u,1+v,rfl,by lia,qW (by lia) (by lia),qW (by lia) (by lia)⟩,(b123.trans b4).trans b5⟩
end
open PySem L2
theorem cutT {α:Type}(f:α -> V)(Z:List α)(lo hi:Option Int):∃Y:List α,dz (Z.map f) lo hi=Y.map f/\Y.length<=Z.length/\∀v∈Y,v∈Z:=by
 refine ⟨(Z.drop (HT.sIx (Z.map f).length 0 lo)).take (HT.sIx (Z.map f).length (Z.map f).length hi-HT.sIx (Z.map f).length 0 lo),?_,?_,λv hv=>B5 (B6 hv)⟩
 ·unfold dz
  rw[ER,ES]
 ·rw[Bf,Bk];lia
theorem vj (xs:List V)(k:Nat):dz xs none (some (k:Int))=xs.take k:=by
 unfold dz
 rw[HT.tQ,HT.vJ,ED,FV]
 by_cases h:k<=xs.length
 ·rw[Hu h]
 ·rw[Nat.min_eq_right (by lia),AY (Ag _),AY (by lia)]
def TL (m n:Nat)(H:Hp)(l:Addr):Prop:=∃us:List (Addr×List Int),H l=some (.lst (us.map λu =>.ref u.1))/\Tus H us/\(∀u∈us,∃a b:Int,u.2=[a,b]/\0<=a/\a<m/\0<=b/\b<m)/\us.length<=n
theorem TL.bu {m n:Nat}{H H':Hp}{l p:Addr}(h:TL m n H l)(b:Bu 2 p H H')(hp:Pt 2 H p)(nl:l≠p):TL m n H' l:=by
 obtain ⟨us,e,tu,pu,lu⟩:=h
 exact ⟨us,b.st _ _ nl e,tu.bu b hp,pu,lu⟩
theorem TL.mono {m n n':Nat}{H:Hp}{l:Addr}(h:TL m n H l)(z:n<=n'):TL m n' H l:=by
 obtain ⟨us,e,tu,pu,lu⟩:=h
 exact ⟨us,e,tu,pu,A4 lu z⟩
theorem TL.snoc {m n:Nat}{H:Hp}{l:Addr}{us vs:List (Addr×List Int)}(el:H l=some (.lst (us.map λu =>.ref u.1)))(tu:Tus H us)(pu:∀u∈us,∃a b:Int,u.2=[a,b]/\0<=a/\a<m/\0<=b/\b<m)(tv:Tus H vs)(pv:∀u∈vs,∃a b:Int,u.2=[a,b]/\0<=a/\a<m/\0<=b/\b<m)(ln:us.length+vs.length<=n):TL m n (upd H l (.lst (us.map (λu=>V.ref u.1)++vs.map λu=>V.ref u.1))) l:=by
 refine ⟨us++vs,by rw[ah,AE],λu hu =>?_,λu hu =>?_,by rw[Ae];exact ln⟩
 ·rcases As.mp hu with z | z
  ·rw[aD (iK (tu u z) el nofun)];exact tu u z
  ·rw[aD (iK (tv u z) el nofun)];exact tv u z
 ·rcases As.mp hu with z | z
  ·exact pu u z
  ·exact pv u z
theorem xc {H:Hp}{t:Addr}{a b:Int}(e:H t=some (.tup [.int a,.int b])):Tus H [(t,[a,b])]:=λu hu=>by
 rw[Ah.mp hu];exact e
theorem in1 {m:Nat}{t:Addr}{a b:Int}(a0:0<=a)(a1:a<m)(b0:0<=b)(b1:b<m):∀u∈[(t,[a,b])],∃a b:Int,u.2=[a,b]/\0<=a/\a<m/\0<=b/\b<m:=λu hu=>by
 rw[Ah.mp hu];exact ⟨a,b,rfl,a0,a1,b0,b1⟩
abbrev vk:Sp:=λvs H Q _=>∃(p:Addr) (mo rm:Nat),vs=[.ref p,.int mo,.int rm]/\Pt 2 H p/\mo<=40/\rm<=200/\∀(r:Addr) (m:Nat) (ts:List (Addr×List Int)) (H':Hp),Bu 2 p H H'->Wb H' r m ts->m<=40->Q (.ref r) H'
@[irreducible] def lV:Sp:=vk
theorem cz {vs:List V}{H:Hp}{Q:VK}{E:XK}:lV vs H Q E↔vk vs H Q E:=by
 delta lV
 exact Cp
section
variable  {P:Au}{w:AV}{K:z8}{mg:Str->Option z9}{base:Heap}{f T:Addr}{fd:A3}
theorem cA:aE ["pot", "most", "room", "many", "shape", "ties", "place", "extra", "turn", "one", "other"] ["pot", "most", "room"] (ak uU):=⟨rfl,rfl,rfl,by decide +kernel,rfl,by decide +kernel,by decide +kernel⟩
theorem qb:(["tie"]:List Str).Nodup:=by decide +kernel
theorem yW (F:Fun K "_law_web" "_law_web" uU f fd)(B:Blt mg)(cLTake:Cal P w K mg base 1 "_law_take" ["pot", "many"] dr):a7 P w K mg base CX0 2 f fd ["pot", "most", "room"] lV:=by
 refine F.ok cA (λvs H Q E h =>?_) (λcdv A outer s H vs Q E hr h =>?_)
 ·obtain ⟨_,_,_,rfl,_⟩:=cz.mp h
  rfl
 obtain ⟨p,mo,rm,rfl,hp,mo4,rm2,q⟩:=cz.mp h
 refine ⟨_,(@ag _ _ _ _ _ (@ax _ _ 3 _ _ _ _ cA.nd rfl (Or.inl rfl) (ay cLTake hr (by decide) rfl (@aa _ _ _ _ _ (pv 0) (@aa _ _ _ _ _ (@az _ _ _ _ _ _ _ _ bh (pv 1) ae) af rfl) rfl)) rfl (by first | exact .inl rfl | exact .inr rfl | assumption))
  (@ag _ _ _ _ _ (@ax _ _ 4 _ _ _ _ cA.nd rfl (Or.inl rfl) (ay cLTake hr (by decide) rfl (@aa _ _ _ _ _ (pv 0) (@aa _ _ _ _ _ ae af rfl) rfl)) rfl (by first | exact .inl rfl | exact .inr rfl | assumption))
  (@ag _ _ _ _ _ (@ax _ _ 5 _ _ _ _ cA.nd rfl (Or.inl rfl) (@cJ _ _ _ _ af) rfl (by first | exact .inl rfl | exact .inr rfl | assumption))
  (@ag _ _ _ _ _ (@cf _ _ _ _ _ _ _ _ Bh rfl (bB rfl B.b_range (@aa _ _ _ _ _ (pv 3) af rfl)) (aH (i:=6) cA.nd rfl (Or.inl rfl))
   (@ag _ _ _ _ _ (@aZ _ _ _ _ _ _ _ _ (av cp (pv 4) ae (aJ _)) (@aj _ _ _ (cc (eD Be Bp Bq bL (pv 5) (@aa _ _ _ _ _ (@bC _ _ _ _ _ (@aa _ _ _ _ _ (pv 6) (@aa _ _ _ _ _ (@az _ _ _ _ _ _ _ _ bP (@az _ _ _ _ _ _ _ _ bh (pv 6) ae) (pv 3)) af rfl) rfl)) af rfl)))) aM)
   (@ag _ _ _ _ _ (@aZ _ _ _ _ _ _ _ _ (PW.pt (cq (av cp (pv 4) ae (aJ _)) (bN (av nF (pv 6) ae (aJ _))))) (@aj _ _ _ (cc (eD Be Bp Bq bL (pv 5) (@aa _ _ _ _ _ (@bC _ _ _ _ _ (@aa _ _ _ _ _ (ay cLTake hr (by decide) rfl (@aa _ _ _ _ _ (pv 0) (@aa _ _ _ _ _ (pv 6) af rfl) rfl)) (@aa _ _ _ _ _ (pv 6) af rfl) rfl)) af rfl)))) aM)
   (@aj _ _ _ (@aZ _ _ _ _ _ _ _ _ (av cp (pv 4) ae (aJ _)) (@aj _ _ _ (cc (eD Be PySem.F.slot_list_extend PySem.F.type_list_extend rJ (pv 5) (@aa _ _ _ _ _ (cV ml (@cJ _ _ _ _ (@aa _ _ _ _ _ (@bC _ _ _ _ _ (@aa _ _ _ _ _ (pv 6) (@aa _ _ _ _ _ (@az _ _ _ _ _ _ _ _ bP (@az _ _ _ _ _ _ _ _ bh (pv 6) ae) (pv 3)) af rfl) rfl)) (@aa _ _ _ _ _ (@bC _ _ _ _ _ (@aa _ _ _ _ _ (pv 6) (@aa _ _ _ _ _ (@az _ _ _ _ _ _ _ _ bP (@az _ _ _ _ _ _ _ _ bh (pv 6) (@az _ _ _ _ _ _ _ _ mh (pv 3) ae)) (pv 3)) af rfl) rfl)) af rfl) rfl)) dO (dP (@az _ _ _ _ _ _ _ _ bh ae (@az _ _ _ _ _ _ _ _ bP (pv 6) ae)))) af rfl)))) aM)))) (λ_=>rfl))
  (@ag _ _ _ _ _ (@ax _ _ 7 _ _ _ _ cA.nd rfl (Or.inl rfl) (ay cLTake hr (by decide) rfl (@aa _ _ _ _ _ (pv 0) (@aa _ _ _ _ _ (@az _ _ _ _ _ _ _ _ bh (pv 2) ae) af rfl) rfl)) rfl (by first | exact .inl rfl | exact .inr rfl | assumption))
  (@ag _ _ _ _ _ (@aZ _ _ _ _ _ _ _ _ (av cp (pv 3) ae (aJ _)) (@aj _ _ _ (@ax _ _ 7 _ _ _ _ cA.nd rfl (Or.inl rfl) ae rfl (by first | exact .inl rfl | exact .inr rfl | assumption))) aM)
  (@ag _ _ _ _ _ (@cf _ _ _ _ _ _ _ _ Bh rfl (bB rfl B.b_range (@aa _ _ _ _ _ (pv 7) af rfl)) (aH (i:=8) cA.nd rfl (Or.inl rfl))
   (@ag _ _ _ _ _ (@ax _ _ 9 _ _ _ _ cA.nd rfl (Or.inl rfl) (ay cLTake hr (by decide) rfl (@aa _ _ _ _ _ (pv 0) (@aa _ _ _ _ _ (pv 3) af rfl) rfl)) rfl (by first | exact .inl rfl | exact .inr rfl | assumption))
   (@ag _ _ _ _ _ (@ax _ _ 10 _ _ _ _ cA.nd rfl (Or.inl rfl) (ay cLTake hr (by decide) rfl (@aa _ _ _ _ _ (pv 0) (@aa _ _ _ _ _ (pv 3) af rfl) rfl)) rfl (by first | exact .inl rfl | exact .inr rfl | assumption))
   (@ag _ _ _ _ _ (@aZ _ _ _ _ _ _ _ _ (av cp (pv 4) ae (aJ _)) (@aj _ _ _ (@ax _ _ 10 _ _ _ _ cA.nd rfl (Or.inl rfl) (@az _ _ _ _ _ _ _ _ bP (@az _ _ _ _ _ _ _ _ bP (@az _ _ _ _ _ _ _ _ bh (pv 9) (@az _ _ _ _ _ _ _ _ hZ ae (pv 10))) (aB (fz rfl) rfl B.b_max j1 (@aa _ _ _ _ _ ae (@aa _ _ _ _ _ (pv 3) af rfl) rfl))) (pv 3)) rfl (by first | exact .inl rfl | exact .inr rfl | assumption))) aM)
   (@ag _ _ _ _ _ (@aZ _ _ _ _ _ _ _ _ (PW.pt (cq (av cp (ay cLTake hr (by decide) rfl (@aa _ _ _ _ _ (pv 0) (@aa _ _ _ _ _ ae af rfl) rfl)) ae (aJ _)) (bN (av (yM hr) (pv 5) (@cJ _ _ _ _ af) (aJ _))))) (@aj _ _ _ (@f9 _ _ _ _ _ _ (@aq _ _ _ _ _ _ _ bq (pv 5) (ay cLTake hr (by decide) rfl (@aa _ _ _ _ _ (pv 0) (@aa _ _ _ _ _ (aB aO rfl B.b_len bV (@aa _ _ _ _ _ (pv 5) af rfl)) af rfl) rfl)) (λ_ _=>rfl)) (oV rfl (cE (aH (i:=9) cA.nd rfl (Or.inl rfl)) (cE (aH (i:=10) cA.nd rfl (Or.inl rfl)) me))) rfl rfl rfl)) aM)
   (@aj _ _ _ (@aZ _ _ _ _ _ _ _ _ (PW.pt (iL (av jw (pv 9) (pv 10) (aJ _)) (hV (av cp (ay cLTake hr (by decide) rfl (@aa _ _ _ _ _ (pv 0) (@aa _ _ _ _ _ ae af rfl) rfl)) ae (aJ _))))) (@aj _ _ _ (cc (eD Be Bp Bq bL (pv 5) (@aa _ _ _ _ _ (@bC _ _ _ _ _ (@aa _ _ _ _ _ (pv 9) (@aa _ _ _ _ _ (pv 10) af rfl) rfl)) af rfl)))) aM)))))) (λ_=>rfl))
  (@aj _ _ _ (@aF _ _ _ _ (@bC _ _ _ _ _ (@aa _ _ _ _ _ (pv 3) (@aa _ _ _ _ _ (bj aY rfl B.b_tuple cn (@aa _ _ _ _ _ (aB mB rfl B.b_sorted fI (@aa _ _ _ _ _ (cj ["tie"] [none] rfl (@cM _ _ _ _ (cV ml (pv 5) dO (dP (pv 2)))) rfl (λ_ _ _ _ _=>(aH (i:=0) qb rfl (Or.inl rfl))) (λ_ _ _ _ _=>jH) (λ_ _ _ _ _=>(@bC _ _ _ _ _ (@aa _ _ _ _ _ (aB (si rfl) rfl B.b_min iC (@aa _ _ _ _ _ (pv 0) af rfl)) (@aa _ _ _ _ _ (aB (sj rfl) rfl B.b_max j1 (@aa _ _ _ _ _ (pv 0) af rfl)) af rfl) rfl)))) af rfl)) af rfl)) af rfl) rfl))))))))))),?_⟩
 refine ⟨_,rfl,_,rfl,_,_,rfl,rfl,aK.mpr ⟨p,(mo:Int)+1,rfl,hp,by lia,by lia,λdm H1 d0 d1 b1 =>?_⟩⟩
 obtain ⟨m,rfl⟩:∃m:Nat,dm=m:=⟨dm.toNat,by lia⟩
 refine ⟨_,rfl,aK.mpr ⟨p,5,rfl,b1.pot,by decide,by decide,λsh H2 s0 s1 b2 =>?_⟩⟩
 have b12:=b1.trans b2
 refine ⟨(by show 0<=Ao;decide),λl hl =>?_⟩
 have nl:l≠p:=nc b2.pot hl
 have hl0:H l=none:=vg b12 hl nl
 have b3:=b12.same (ai hl (.lst []))
 have T3:TL m 0 (upd H2 l (.lst [])) l:=⟨[],ah,(λu h=>nomatch h),(λu h=>nomatch h),Ag _⟩
 generalize upd H2 l (.lst [])=H3 at b3 T3
 let W0:Nat->St->Hp->Prop:=λk σ H'=>(∃c6,σ=[some (.ref p),some (.int mo),some (.int rm),some (.int (m:Nat)),some (.int sh),some (.ref l),c6,none,none,none,none])/\Bu 2 p H H'/\TL m (4*k) H' l
 refine ⟨_,rfl,(m:Int),rfl,by lia,by lia,cu W0 ⟨⟨_,rfl⟩,b3,T3⟩ ?_ ?_⟩
 ·rintro k σ H4 hk ⟨⟨c6,rfl⟩,b4,T4⟩
  have km:k<m:=by lia
  have md:(0:Int)<(m:Int):=by lia
  have x0:=BU ((0+(k:Int))+1) (b:=(m:Int)) (by lia)
  have x1:=BP ((0+(k:Int))+1) (b:=(m:Int)) (by lia)
  refine ⟨_,rfl,rfl,_,rfl,fM (λσ' H'=>σ'=[some (.ref p),some (.int mo),some (.int rm),some (.int (m:Nat)),some (.int sh),some (.ref l),some (.int (0+(k:Nat))),none,none,none,none]/\Bu 2 p H H'/\TL m (4*k+1) H' l) ?_ (λhP z =>?_) λz=>⟨rfl,b4,T4.mono (by lia)⟩⟩
  case refine_2 =>
   obtain ⟨us,el,tu,pu,lu⟩:=T4
   refine ⟨_,rfl,.inl ⟨rfl,_,SqL.of el⟩,_,rfl,_,rfl,_,_,rfl,rfl,_,rfl,_,_,rfl,rfl,md,(by show 2<=Ao;decide),λt ht =>?_⟩
   have gt:=ai ht (.tup [.int (0+(k:Int)),.int ((0+(k:Int)+1)%(m:Int))])
   have el':=gt _ _ el
   have et':upd H4 t (.tup [.int (0+(k:Int)),.int ((0+(k:Int)+1)%(m:Int))]) t=some (.tup [.int (0+(k:Int)),.int ((0+(k:Int)+1)%(m:Int))]):=ah
   have tu':=tu.same gt
   generalize upd H4 t (.tup [.int (0+(k:Int)),.int ((0+(k:Int)+1)%(m:Int))])=HN at gt el' et' tu'
   refine ⟨l,_,_,rfl,rfl,el',cK (by rw[z4];lia),?_⟩
   have TN:=TL.snoc (m:=m) (n:=us.length+1) el' tu' pu (xc et') (in1 (by lia) (by lia) x0 x1) (Ag _)
   exact hP _ _ ⟨rfl,(b4.same gt).bQ hl0 nl _,TN.mono (by lia)⟩
  rintro σ H5 ⟨rfl,b5,T5⟩
  refine ⟨_,rfl,rfl,_,rfl,lT (λσ' H'=>σ'=[some (.ref p),some (.int mo),some (.int rm),some (.int (m:Nat)),some (.int sh),some (.ref l),some (.int (0+(k:Nat))),none,none,none,none]/\Bu 2 p H H'/\TL m (4*k+2) H' l) ?_ (λhP hb =>?_) ⟨rfl,b5,T5.mono (by lia)⟩⟩
  case refine_2 =>
   refine ⟨_,rfl,_,_,rfl,rfl,_,rfl,dQ (λz =>?_) λz=>hP _ _ ⟨rfl,b5,T5.mono (by lia)⟩⟩
   have k0:(0:Int)<0+(k:Int):=of_decide_eq_true z
   obtain ⟨us,el,tu,pu,lu⟩:=T5
   refine ⟨_,rfl,.inl ⟨rfl,_,SqL.of el⟩,_,rfl,_,rfl,aK.mpr ⟨p,0+(k:Int),rfl,b5.pot,k0,by lia,λd6 H6 e0 e1 b6 =>?_⟩⟩
   have el:=b6.st _ _ nl el
   have tu:=tu.bu b6 b5.pot
   refine ⟨_,rfl,(by show 2<=Ao;decide),λt ht =>?_⟩
   have gt:=ai ht (.tup [.int (d6),.int (0+(k:Int))])
   have el':=gt _ _ el
   have et':upd H6 t (.tup [.int (d6),.int (0+(k:Int))]) t=some (.tup [.int (d6),.int (0+(k:Int))]):=ah
   have tu':=tu.same gt
   generalize upd H6 t (.tup [.int (d6),.int (0+(k:Int))])=HN at gt el' et' tu'
   refine ⟨l,_,_,rfl,rfl,el',cK (by rw[z4];lia),?_⟩
   have TN:=TL.snoc (m:=m) (n:=us.length+1) el' tu' pu (xc et') (in1 e0 (by lia) (by lia) (by lia)) (Ag _)
   exact hP _ _ ⟨rfl,((b5.trans b6).same gt).bQ hl0 nl _,TN.mono (by lia)⟩
  rintro σ H6 ⟨rfl,b6,T6⟩
  refine ⟨_,rfl,rfl,_,rfl,dQ (λz =>?_) λz=>⟨⟨_,rfl⟩,b6,T6.mono (by lia)⟩⟩
  obtain ⟨us,el,tu,pu,lu⟩:=T6
  have y0:=BU ((0+(k:Int))+(m:Int)/2) (b:=(m:Int)) (by lia)
  have y1:=BP ((0+(k:Int))+(m:Int)/2) (b:=(m:Int)) (by lia)
  refine ⟨_,rfl,.inl ⟨rfl,_,SqL.of el⟩,_,rfl,_,rfl,_,_,rfl,rfl,_,rfl,_,_,rfl,rfl,md,(by show 2<=Ao;decide),λt1 ht1 =>?_⟩
  have g1:=ai ht1 (.tup [.int (0+(k:Int)),.int ((0+(k:Int)+1)%(m:Int))])
  have e1:upd H6 t1 (.tup [.int (0+(k:Int)),.int ((0+(k:Int)+1)%(m:Int))]) t1=some (.tup [.int (0+(k:Int)),.int ((0+(k:Int)+1)%(m:Int))]):=ah
  generalize upd H6 t1 (.tup [.int (0+(k:Int)),.int ((0+(k:Int)+1)%(m:Int))])=H7 at g1 e1
  refine ⟨_,rfl,_,rfl,_,rfl,_,_,rfl,rfl,⟨by decide,by decide⟩,_,_,rfl,rfl,_,rfl,_,_,rfl,rfl,md,(by show 2<=Ao;decide),λt2 ht2 =>?_⟩
  have g2:=ai ht2 (.tup [.int (0+(k:Int)),.int ((0+(k:Int)+(m:Int)/2)%(m:Int))])
  have e2:upd H7 t2 (.tup [.int (0+(k:Int)),.int ((0+(k:Int)+(m:Int)/2)%(m:Int))]) t2=some (.tup [.int (0+(k:Int)),.int ((0+(k:Int)+(m:Int)/2)%(m:Int))]):=ah
  generalize upd H7 t2 (.tup [.int (0+(k:Int)),.int ((0+(k:Int)+(m:Int)/2)%(m:Int))])=H8 at g2 e2
  refine ⟨(by show 2<=Ao;decide),λc1 hc1 =>?_⟩
  have g3:=ai hc1 (.lst [.ref t1,.ref t2])
  refine ⟨_,rfl,_,_,rfl,rfl,(by show (0:Int)<2;decide),_,_,rfl,rfl,_,rfl,c1,_,rfl,SqL.of ah,λc2 hc2 =>?_⟩
  obtain ⟨Y,eY,lY,mY⟩:=cutT (λu:Addr×List Int=>V.ref u.1) [(t1,[0+(k:Int),(0+(k:Int)+1)%(m:Int)]),(t2,[0+(k:Int),(0+(k:Int)+(m:Int)/2)%(m:Int)])] none (some (1+(0+(k:Int))%2))
  have eY:dz [V.ref t1,V.ref t2] none (some (1+(0+(k:Int))%2))=Y.map λu=>V.ref u.1:=eY
  rw[eY]
  generalize upd H8 c1 (.lst [.ref t1,.ref t2])=H9 at g3 hc2
  have g4:=g3.trans (ai hc2 (.lst (Y.map λu=>V.ref u.1)))
  have ec2:upd H9 c2 (.lst (Y.map λu=>V.ref u.1)) c2=some (.lst (Y.map λu=>V.ref u.1)):=ah
  generalize upd H9 c2 (.lst (Y.map λu=>V.ref u.1))=H10 at g4 ec2
  have g14:=g1.trans (g2.trans g4)
  have tY:Tus H10 Y:=λu hu=>by
   rcases AJ.mp (mY u hu) with h | h
   ·rw[h];exact g4 _ _ (g2 _ _ e1)
   ·rw[Ah.mp h];exact g4 _ _ e2
  have pY:∀u∈Y,∃a b:Int,u.2=[a,b]/\0<=a/\a<m/\0<=b/\b<m:=λu hu=>by
   rcases AJ.mp (mY u hu) with h | h
   ·rw[h];exact ⟨_,_,rfl,by lia,by lia,x0,x1⟩
   ·rw[Ah.mp h];exact ⟨_,_,rfl,by lia,by lia,y0,y1⟩
  have lY:Y.length<=2:=lY
  have TN:=TL.snoc (m:=m) (n:=4*(k+1)) (g14 _ _ el) (tu.same g14) pu tY pY (by lia)
  exact ⟨l,c2,_,_,rfl,rfl,g14 _ _ el,ec2,cy (by rw[z4,z4];lia),⟨_,rfl⟩,(b6.same g14).bQ hl0 nl _,TN⟩
 rintro σ H4 ⟨⟨c6,rfl⟩,b4,T4⟩
 have T4:=T4.mono (n':=160) (by lia)
 refine ⟨_,rfl,_,rfl,_,_,rfl,rfl,aK.mpr ⟨p,(rm:Int)+1,rfl,b4.pot,by lia,by lia,λex H5 ex0 ex1 b5 =>?_⟩⟩
 have T5:=T4.bu b5 b4.pot nl
 have b45:=b4.trans b5
 refine ⟨_,rfl,rfl,_,rfl,fM (λσ' H'=>(∃e:Nat,σ'=[some (.ref p),some (.int mo),some (.int rm),some (.int (m:Nat)),some (.int sh),some (.ref l),c6,some (.int (e:Nat)),none,none,none]/\e<=200/\(0<e->0<m))/\Bu 2 p H H'/\TL m 160 H' l) ?_ (λhP z=>hP _ _ ⟨⟨0,rfl,by decide,λh=>absurd h (A5 _)⟩,b45,T5⟩) λz=>⟨⟨ex.toNat,by rw[show ((ex.toNat:Nat):Int)=ex by lia];rfl,by lia,λ_ =>?_⟩,b45,T5⟩⟩
 case refine_2 =>
  rw[zV] at z
  have z:¬ (m:Int)=0:=of_decide_eq_false (by simpa using z)
  lia
 rintro σ H6 ⟨⟨e,rfl,e2,em⟩,b6,T6⟩
 let W1:Nat->St->Hp->Prop:=λt σ H'=>(∃c8 c9 c10,σ=[some (.ref p),some (.int mo),some (.int rm),some (.int (m:Nat)),some (.int sh),some (.ref l),c6,some (.int (e:Nat)),c8,c9,c10])/\Bu 2 p H H'/\TL m (160+t) H' l
 refine ⟨_,rfl,(e:Int),rfl,by lia,by lia,cu W1 ⟨⟨_,_,_,rfl⟩,b6,T6⟩ ?_ ?_⟩
 ·rintro t σ H7 ht0 ⟨⟨c8,c9,c10,rfl⟩,b7,T7⟩
  have m0:0<m:=em (by lia)
  have md:(0:Int)<(m:Int):=by lia
  refine ⟨_,rfl,_,rfl,aK.mpr ⟨p,(m:Int),rfl,b7.pot,md,by lia,λx H8 x0 x1 b8 =>?_⟩⟩
  refine ⟨_,rfl,_,rfl,aK.mpr ⟨p,(m:Int),rfl,b8.pot,md,by lia,λy H9 y0 y1 b9 =>?_⟩⟩
  have b79:=(b7.trans b8).trans b9
  have T9:=(T7.bu b8 b7.pot nl).bu b9 b8.pot nl
  refine ⟨_,rfl,rfl,_,rfl,fM (λσ' H'=>(∃y:Int,σ'=[some (.ref p),some (.int mo),some (.int rm),some (.int (m:Nat)),some (.int sh),some (.ref l),c6,some (.int (e:Nat)),some (.int (0+(t:Nat))),some (.int x),some (.int y)]/\0<=y/\y<m)/\Bu 2 p H H'/\TL m (160+t) H' l) ?_ (λhP z =>?_) λz=>⟨⟨y,rfl,y0,y1⟩,b79,T9⟩⟩
  case refine_2 =>
   refine ⟨_,rfl,_,rfl,_,_,rfl,rfl,.inl ⟨by decide,by decide⟩,_,_,rfl,rfl,_,rfl,_,_,rfl,_,_,rfl,rfl,(by show (0:Int)<if (m:Int)>2 then (m:Int) else 2;split <;> lia),_,rfl,_,_,rfl,rfl,md,hP _ _ ⟨⟨_,rfl,BU _ (by lia),BP _ md⟩,b79,T9⟩⟩
  clear y0 y1
  rintro σ H10 ⟨⟨y,rfl,y0,y1⟩,b10,T10⟩
  refine ⟨_,rfl,aK.mpr ⟨p,6,rfl,b10.pot,by decide,by decide,λd6 H11 f0 f1 b11=>⟨rfl,_,rfl,?_⟩⟩⟩
  have b1011:=b10.trans b11
  have T11:=T10.bu b11 b10.pot nl
  refine lT (λσ' H'=>(∃x y:Int,σ'=[some (.ref p),some (.int mo),some (.int rm),some (.int (m:Nat)),some (.int sh),some (.ref l),c6,some (.int (e:Nat)),some (.int (0+(t:Nat))),some (.int x),some (.int y)]/\(0<=x/\x<m)/\0<=y/\y<m)/\Bu 2 p H H'/\TL m (160+t) H' l) ?_ (λhP hb =>?_) ⟨⟨x,y,rfl,⟨x0,x1⟩,y0,y1⟩,b1011,T11⟩
  case refine_2 =>
   refine ⟨_,rfl,(by show 0<=Ao;decide),λz1 hz1 =>?_⟩
   have g12:=ai hz1 (.lst [])
   have b12:=b1011.same g12
   obtain ⟨us,el,tu,pu,lu⟩:=T11
   refine ⟨l,z1,_,rfl,rfl,g12 _ _ el,ah,λh=>⟨_,rfl,aX (hP _ _ ⟨⟨x,y,rfl,⟨x0,x1⟩,y0,y1⟩,b12,us,g12 _ _ el,tu.same g12,pu,lu⟩)⟩,λh=>⟨_,rfl,a9 ?_⟩⟩
   have ul:0<us.length:=Cy.mpr λe=>h (by rw[e];rfl)
   have el12:=g12 _ _ el
   have tu12:=tu.same g12
   generalize upd H11 z1 (.lst [])=H12 at g12 b12 el12 tu12
   refine ⟨_,rfl,_,rfl,_,rfl,l,_,rfl,.inl (SqL.of el12),aK.mpr ⟨p,(us.length:Int),by rw[z4];rfl,b12.pot,by lia,by lia,λdq H13 q0 q1 b13 =>?_⟩⟩
   obtain ⟨u,um,hat⟩:=wK (g:=λu:Addr×List Int=>u.1) (ts:=us) q0 q1
   obtain ⟨a,b,eu,a0,a1,c0,c1⟩:=pu u um
   have e13:=tu12.bu b13 b12.pot u um
   rw[eu] at e13
   have el13:=b13.st _ _ nl el12
   refine ⟨l,_,dq,_,rfl,rfl,SqL.of el13,hat,u.1,_,rfl,SqT.of e13,rfl,_,_,rfl,_,_,rfl,rfl,hP _ _ ⟨⟨a,b,rfl,⟨a0,a1⟩,c0,c1⟩,b12.trans b13,us,el13,tu12.bu b13 b12.pot,pu,lu⟩⟩
  clear x0 x1 y0 y1
  rintro σ H12 ⟨⟨x,y,rfl,⟨x0,x1⟩,y0,y1⟩,b12,T12⟩
  refine ⟨_,rfl,_,rfl,rfl,_,rfl,dQ (λz=>a9 ?_) λz =>?_⟩
  ·obtain ⟨us,el,tu,pu,lu⟩:=T12
   refine ⟨_,rfl,.inl ⟨rfl,_,SqL.of el⟩,_,rfl,_,rfl,(by show 2<=Ao;decide),λt ht =>?_⟩
   have gt:=ai ht (.tup [.int (x),.int (y)])
   have el':=gt _ _ el
   have et':upd H12 t (.tup [.int (x),.int (y)]) t=some (.tup [.int (x),.int (y)]):=ah
   have tu':=tu.same gt
   generalize upd H12 t (.tup [.int (x),.int (y)])=HN at gt el' et' tu'
   refine ⟨l,_,_,rfl,rfl,el',cK (by rw[z4];lia),?_⟩
   have TN:=TL.snoc (m:=m) (n:=us.length+1) el' tu' pu (xc et') (in1 x0 x1 y0 y1) (Ag _)
   exact ⟨⟨_,_,_,rfl⟩,(b12.same gt).bQ hl0 nl _,TN.mono (by lia)⟩
  ·refine ⟨_,rfl,aK.mpr ⟨p,3,rfl,b12.pot,by decide,by decide,λd3 H13 f0 f1 b13=>⟨rfl,_,rfl,?_⟩⟩⟩
   have b1213:=b12.trans b13
   have T13:=T12.bu b13 b12.pot nl
   refine dQ (λz =>?_) λz=>⟨⟨_,_,_,rfl⟩,b1213,T13.mono (by lia)⟩
   obtain ⟨us,el,tu,pu,lu⟩:=T13
   refine ⟨_,rfl,.inl ⟨rfl,_,SqL.of el⟩,_,rfl,_,rfl,(by show 2<=Ao;decide),λt ht =>?_⟩
   have gt:=ai ht (.tup [.int (x),.int (y)])
   have el':=gt _ _ el
   have et':upd H13 t (.tup [.int (x),.int (y)]) t=some (.tup [.int (x),.int (y)]):=ah
   have tu':=tu.same gt
   generalize upd H13 t (.tup [.int (x),.int (y)])=HN at gt el' et' tu'
   refine ⟨l,_,_,rfl,rfl,el',cK (by rw[z4];lia),?_⟩
   have TN:=TL.snoc (m:=m) (n:=us.length+1) el' tu' pu (xc et') (in1 x0 x1 y0 y1) (Ag _)
   exact ⟨⟨_,_,_,rfl⟩,(b1213.same gt).bQ hl0 nl _,TN.mono (by lia)⟩
 ·rintro σ H7 ⟨⟨c8,c9,c10,rfl⟩,b7,us,el,tu,pu,lu⟩
  refine ⟨_,rfl,_,rfl,_,rfl,_,rfl,l,_,rfl,SqL.of el,λc1 hc1 =>?_⟩
  rw[vj, <- ER]
  have lt:(us.take rm).length<=rm:=List.length_take_le _ _
  have tk:∀u∈us.take rm,u∈us:=λu hu=>B6 hu
  generalize us.take rm=vs at lt tk
  have g8:=ai hc1 (.lst (vs.map λu=>V.ref u.1))
  have ec1:upd H7 c1 (.lst (vs.map λu=>V.ref u.1)) c1=some (.lst (vs.map λu=>V.ref u.1)):=ah
  have b8:=b7.same g8
  have tv:Tus (upd H7 c1 (.lst (vs.map λu=>V.ref u.1))) vs:=λu hu=>g8 _ _ (tu u (tk u hu))
  generalize upd H7 c1 (.lst (vs.map λu=>V.ref u.1))=H8 at g8 ec1 b8 tv
  let W2:Nat->List V->Hp->Prop:=λi ys H'=>aA H8 H'/\∃ws:List (Addr×List Int),ys=ws.map (λu =>.ref u.1)/\Tus H' ws/\(∀u∈ws,∃a b:Int,u.2=[a,b]/\0<=a/\a<=b/\b<m)/\ws.length<=i
  refine ⟨c1,rfl,⟨_,SqL.of ec1⟩,cw (xs:=vs.map λu =>.ref u.1) W2 ⟨aA.refl _,[],rfl,(λu h=>nomatch h),(λu h=>nomatch h),Ag _⟩ (by rw[z4];exact cy (by lia)) (λi ys H' _ h=>SqL.of (h.1 _ _ ec1)) ?_ ?_⟩
  ·rintro i x ys H9 hx _ ⟨s9,ws,rfl,tw,pw,lw⟩ R1 R0 r1 r0
   obtain ⟨u,eu,rfl⟩:=j8 hx
   have um:=Aj eu
   obtain ⟨a,b,ab,a0,a1,c0,c1⟩:=pu u (tk u um)
   have e9:=s9 _ _ (tv u um)
   rw[ab] at e9
   refine a9 ⟨_,rfl,u.1,a,b,rfl,SqT.of e9,_,rfl,u.1,a,b,rfl,SqT.of e9,(by show 2<=Ao;decide),λt ht=>r1 _ _ ⟨s9.trans (ai ht _),ws++[(t,[if b<a then b else a,if b>a then b else a])],by rw[AE];rfl,(tw.same (ai ht _)).snoc ah,λv hv =>?_,by rw[Ae];show _+1<=_;lia⟩⟩
   rcases As.mp hv with z | z
   ·exact pw v z
   ·rw[Ah.mp z]
    exact ⟨_,_,rfl,by split <;> lia,by split <;> split <;> lia,by split <;> lia⟩
  ·rintro ys H9 _ ⟨s9,ws,rfl,tw,pw,lw⟩ l1 hl1
   rw[z4] at lw
   have g1:=ai hl1 (.lst (ws.map λu=>V.ref u.1))
   refine ⟨l1,ws,rfl,.inl (SqL.of ah),λt ht=>⟨SqT.of (g1 _ _ (tw t ht)),λz =>?_⟩,λl2 out hl2 pm _=>⟨l2,_,rfl,.inl ⟨SqL.of ah,λl3 hl3=>⟨(by show 2<=Ao;decide),λr hr =>?_⟩⟩⟩⟩
   ·obtain ⟨a,b,e,_⟩:=pw t ht
    rw[e] at z;cases z
   ·have g2:=ai hl2 (.lst (out.map λt=>V.ref t.1))
    have g3:=ai hl3 (.tup (out.map λt=>V.ref t.1))
    have g4:=ai hr (.tup [.int m,.ref l3])
    refine q r m out _ (b8.same (s9.trans (g1.trans (g2.trans (g3.trans g4))))) ⟨⟨l3,ah,g4 _ _ ah⟩,λu hu=>g4 _ _ (g3 _ _ (g2 _ _ (g1 _ _ (tw u (pm.mem_iff.mp hu))))),λu hu=>pw u (pm.mem_iff.mp hu),by rw[pm.length_eq];lia⟩ (by lia)
end
section
variable  {P:Au}{w:AV}{K:z8}{mg:Str->Option z9}{base:Heap}{f T:Addr}{fd:A3}
theorem qc:aE ["pot", "many", "room"] ["pot", "many", "room"] (ak iA):=⟨rfl,rfl,rfl,by decide +kernel,rfl,by decide +kernel,by decide +kernel⟩
theorem qd (F:Fun K "_law_wide_web" "_law_wide_web" iA f fd)(B:Blt mg)(cLWeb:Cal P w K mg base 2 "_law_web" ["pot", "most", "room"] lV)(cLTake:Cal P w K mg base 1 "_law_take" ["pot", "many"] dr):a7 P w K mg base CX0 3 f fd ["pot", "many", "room"] lV:=by
 refine F.ok qc (λvs H Q E h =>?_) (λcdv A outer s H vs Q E hr h =>?_)
 ·obtain ⟨_,_,_,rfl,_⟩:=cz.mp h
  rfl
 obtain ⟨p,mo,rm,rfl,hp,mo4,rm2,q⟩:=cz.mp h
 refine ⟨_,(@ag _ _ _ _ _ (@aZ _ _ _ _ _ _ _ _ (av cp (ay cLTake hr (by decide) rfl (@aa _ _ _ _ _ (pv 0) (@aa _ _ _ _ _ ae af rfl) rfl)) ae (aJ _)) (@aj _ _ _ (@aF _ _ _ _ (ay cLWeb hr (by decide) rfl (@aa _ _ _ _ _ (pv 0) (@aa _ _ _ _ _ ae (@aa _ _ _ _ _ ae af rfl) rfl) rfl)))) aM)
  (@aj _ _ _ (@aF _ _ _ _ (ay cLWeb hr (by decide) rfl (@aa _ _ _ _ _ (pv 0) (@aa _ _ _ _ _ (pv 1) (@aa _ _ _ _ _ (pv 2) af rfl) rfl) rfl))))),?_⟩
 refine ⟨_,rfl,aK.mpr ⟨p,8,rfl,hp,by decide,by decide,λd1 H1 d0 d1 b1=>⟨rfl,_,rfl,dQ (λz =>?_) λz =>?_⟩⟩⟩
 ·exact ⟨_,rfl,cz.mpr ⟨p,40,200,rfl,b1.pot,by decide,by decide,λr m ts H2 b2 W m4=>q r m ts H2 (b1.trans b2) W m4⟩⟩
 ·exact ⟨_,rfl,_,rfl,_,rfl,cz.mpr ⟨p,mo,rm,rfl,b1.pot,mo4,rm2,λr m ts H2 b2 W m4=>q r m ts H2 (b1.trans b2) W m4⟩⟩
end
open PySem L2
def inn (P:List Int)(t:List Int):Bool:=decide (t.getD 0 0∈P) && decide (t.getD 1 0∈P)
def ends (v:Int)(t:List Int):Int:=(if t.getD 0 0=v then 1 else 0)+if t.getD 1 0=v then 1 else 0
def tin (ns:List (List Int))(P:List Int)(v:Int):Int:=((ns.filter (inn P)).map (ends v)).sum
theorem oP (ns:List (List Int))(P:List Int)(t:List Int)(v:Int):tin (ns++[t]) P v=tin ns P v+if inn P t=true then ends v t else 0:=by
 unfold tin
 rw[CH,AE,List.sum_append]
 congr 1
 by_cases c:inn P t=true
 ·rw[if_pos c,BZ c];simp
 ·rw[if_neg c,B0 c];rfl
theorem xf (v:Int)(t:List Int):0<=ends v t:=by unfold ends;split <;> split <;> lia
theorem xg {K:z8}{a:Addr}{xs:List V}{g:TG}{tb:TS}{D:Ends}{σ:St}{H:Hp}(Pv:Nat->St->Hp->Prop)(hp:H a=some (.lst xs)\/H a=some (.tup xs))(h0:Pv 0 σ H)(hl:∀i σ H',Pv i σ H'->H' a=H a)
  (hs:∀i x σ H,xs[i]? = some x->Pv i σ H->g x σ H λσ2 H2=>tb { D with nx:=Pv (i+1),ct:=Pv (i+1),bk:=D.nx } σ2 H2) (hd:∀σ H,Pv xs.length σ H->D.nx σ H) :
  ((∃xs,SqL K H a xs)/\zy (Itl K a) g tb D σ H)\/((∃xs,SqT K H a xs)/\zy (Itt K a) g tb D σ H):=by
 rcases hp with hp | hp
 ·exact .inl ⟨⟨_,SqL.of hp⟩,gF Pv h0 (λi σ H' _ z=>SqL.of ((hl i σ H' z).trans hp)) hs hd⟩
 ·exact .inr ⟨⟨_,SqT.of hp⟩,iZ Pv h0 (λi σ H' _ z=>SqT.of ((hl i σ H' z).trans hp)) hs hd⟩
theorem rep0:∀m:Nat,(AX m [V.int 0]).flatten=(AX m (0:Int)).map V.int
 | 0=>rfl
 | m+1=>by rw[BS,Ce,rep0 m,BS];rfl
theorem getV {ws:List Int}{n:Nat}(h:n<ws.length):atI (ws.map V.int) (n:Int)=some (.int (ws.getD n 0)):=cN (by rw[Aw,Ab h,Aq,Ab h];rfl)
def Lay (m:Nat)(H:Hp)(U:Addr)(g:Int->Int):Prop:=∃L:List Int,H U=some (.lst (L.map V.int))/\L.length=m/\∀j:Nat,j<m->L.getD j 0=g j
theorem oQ {L:List Int}{n j:Nat}{v:Int}(h:n<L.length):(L.set n v).getD j 0=if j=n then v else L.getD j 0:=by
 rw[Aq,G7]
 by_cases c:n=j
 ·subst c;rw[if_pos rfl,if_pos h,if_pos rfl];rfl
 ·rw[if_neg c,if_neg (λz=>c z.symm), <- Aq]
theorem ixn {n k:Nat}(h:n<k):ixN k (n:Int)=some n:=by
 unfold ixN
 rw[if_pos (by lia),if_pos (by lia)];rfl
abbrev lX:Sp:=λvs H Q _=>∃(r p:Addr) (m:Nat) (ts:List (Addr×List Int)) (P:List Int),vs=[.ref r,.ref p]/\Wb H r m ts/\H p=some (.tup (P.map V.int))/\∀H',aA H H'->Q (.int (((ts.map (·.2)).filter (inn P)).length:Nat)) H'
@[irreducible] def gZ:Sp:=lX
theorem eB {vs:List V}{H:Hp}{Q:VK}{E:XK}:gZ vs H Q E↔lX vs H Q E:=by
 delta gZ
 exact Cp
section
variable  {P:Au}{w:AV}{K:z8}{mg:Str->Option z9}{base:Heap}{f T:Addr}{fd:A3}
theorem nk:aE ["web", "places"] ["web", "places"] (ak eX):=⟨rfl,rfl,rfl,by decide +kernel,rfl,by decide +kernel,by decide +kernel⟩
theorem dG:(["tie", "places"]:List Str).Nodup:=by decide +kernel
theorem nq (F:Fun K "ties_within" "ties_within" eX f fd)(B:Blt mg):a7 P w K mg base CX0 1 f fd ["web", "places"] gZ:=by
 refine F.ok nk (λvs H Q E h =>?_) (λcdv A outer s H vs Q E hr h =>?_)
 ·obtain ⟨_,_,_,_,_,rfl,_⟩:=eB.mp h
  rfl
 obtain ⟨r,p,m,ts,P,rfl,W,ep,q⟩:=eB.mp h
 refine ⟨_,(@aj _ _ _ (@aF _ _ _ _ (aB aO rfl B.b_len bV (@aa _ _ _ _ _ (cj ["tie", "places"] [none,some 1] rfl (@gf _ _ _ _ (@aq _ _ _ _ _ _ _ au (pv 0) ae (λ_ _=>rfl))) rfl (λ_ _ _ _ _=>(aH (i:=0) dG rfl (Or.inl rfl))) (λ_ _ _ _ _=>(dS (PW.pt (cq (av (jI (K:=K)) (@aq _ _ _ _ _ _ _ (da (K:=K)) (pv 0) ae (λ_ _=>rfl)) (pv 1) rfl) (bN (av (jI (K:=K)) (@aq _ _ _ _ _ _ _ (da (K:=K)) (pv 0) ae (λ_ _=>rfl)) (pv 1) rfl)))))) (λ_ _ _ _ _=>(pv 0))) af rfl)))),?_⟩
 obtain ⟨t,e1,e2⟩:=W.at'
 have lum:(ts.map λu=>V.ref u.1).length=ts.length:=z4 _
 have tl:=W.len
 refine ⟨_,rfl,r,_,1,_,rfl,rfl,SqT.of e1,rfl,t,rfl,⟨_,SqT.of e2⟩,fC (xs:=ts.map λu =>.ref u.1) (λi ys H'=>H'=H/\ys=((ts.take i).filter λu=>inn P u.2).map λu=>V.ref u.1) ⟨rfl,rfl⟩ (by rw[lum];exact cy (by lia)) (λi ys H' _ h=>by rw[h.1];exact SqT.of e2) ?_ ?_⟩
 ·rintro i x ys H1 hx _ ⟨rfl,rfl⟩ R1 R0 r1 r0
  obtain ⟨u,eu,rfl⟩:=j8 hx
  have um:=Aj eu
  obtain ⟨a,b,ab,_⟩:=W.pr u um
  have eu1:=W.tup u um
  have tk:((ts.take (i+1)).filter λu=>inn P u.2)=((ts.take i).filter λu=>inn P u.2)++if inn P u.2=true then [u] else []:=by
   rw[Bm,eu,CH]
   congr 1
   by_cases c:inn P u.2=true
   ·rw[if_pos c,Cq,BZ (by exact c)];rfl
   ·rw[if_neg c,Cq,B0 (by exact c)];rfl
  have iv:inn P u.2=(decide (a∈P) && decide (b∈P)):=by rw[ab];rfl
  rw[ab] at eu1
  refine ⟨_,rfl,u.1,_,0,_,rfl,rfl,SqT.of eu1,rfl,_,rfl,p,_,rfl,.inr (SqT.of ep),rfl,bo P,_,rfl,?_⟩
  show if inV (.int a) (P.map V.int)=true then _ else _
  rw[mL]
  by_cases ca:a∈P
  ·rw[decide_eq_true ca]
   refine a9 ⟨_,rfl,u.1,_,1,_,rfl,rfl,SqT.of eu1,rfl,_,rfl,p,_,rfl,.inr (SqT.of ep),rfl,bo P,_,rfl,?_⟩
   show if inV (.int b) (P.map V.int)=true then _ else _
   rw[mL]
   by_cases cb:b∈P
   ·rw[decide_eq_true cb]
    refine a9 ⟨_,rfl,r1 _ _ ⟨rfl,?_⟩⟩
    rw[tk,if_pos (by rw[iv,decide_eq_true ca,decide_eq_true cb];rfl),AE];rfl
   ·rw[decide_eq_false cb]
    refine aX (r0 _ ⟨rfl,?_⟩)
    rw[tk,if_neg (by rw[iv,decide_eq_false cb,CU];exact Ak),AU]
  ·rw[decide_eq_false ca]
   refine aX (aX (r0 _ ⟨rfl,?_⟩))
   rw[tk,if_neg (by rw[iv,decide_eq_false ca,CT];exact Ak),AU]
 rintro ys H1 _ ⟨rfl,rfl⟩ l hl
 rw[lum,Cs]
 have lf:(ts.filter λu=>inn P u.2).length=((ts.map (·.2)).filter (inn P)).length:=by rw[EY,z4];rfl
 refine ⟨l,_,rfl,.inl (SqL.of ah),?_⟩
 rw[z4,lf]
 exact q _ (ai hl _)
end
abbrev oR:Sp:=λvs H Q _=>∃(r p:Addr) (m:Nat) (ts:List (Addr×List Int)) (P:List Int),vs=[.ref r,.ref p]/\Wb H r m ts/\m<=40/\H p=some (.tup (P.map V.int))/\∀(U:Addr) (H':Hp),aA H H'->H U=none->Lay m H' U (tin (ts.map (·.2)) P)->Q (.ref U) H'
@[irreducible] def jj:Sp:=oR
theorem fq {vs:List V}{H:Hp}{Q:VK}{E:XK}:jj vs H Q E↔oR vs H Q E:=by
 delta jj
 exact Cp
section
variable  {P:Au}{w:AV}{K:z8}{mg:Str->Option z9}{base:Heap}{f T:Addr}{fd:A3}
theorem ft:aE ["web", "places", "counts", "tie"] ["web", "places"] (ak gs):=⟨rfl,rfl,rfl,by decide +kernel,rfl,by decide +kernel,by decide +kernel⟩
theorem oS (F:Fun K "ties_among" "ties_among" gs f fd)(B:Blt mg):a7 P w K mg base CX0 1 f fd ["web", "places"] jj:=by
 refine F.ok ft (λvs H Q E h =>?_) (λcdv A outer s H vs Q E hr h =>?_)
 ·obtain ⟨_,_,_,_,_,rfl,_⟩:=fq.mp h
  rfl
 obtain ⟨r,p,m,ts,P,rfl,W,m4,ep,q⟩:=fq.mp h
 refine ⟨_,(@ag _ _ _ _ _ (@ax _ _ 2 _ _ _ _ ft.nd rfl (Or.inl rfl) (@az _ _ _ _ _ _ _ _ tV (@cJ _ _ _ _ (@aa _ _ _ _ _ ae af rfl)) (@aq _ _ _ _ _ _ _ au (pv 0) ae (λ_ _=>rfl))) rfl (by first | exact .inl rfl | exact .inr rfl | assumption))
  (@ag _ _ _ _ _ (@cf _ _ _ _ _ _ _ _ Bh rfl (@gf _ _ _ _ (@aq _ _ _ _ _ _ _ au (pv 0) ae (λ_ _=>rfl))) (aH (i:=3) ft.nd rfl (Or.inl rfl))
   (@aj _ _ _ (@aZ _ _ _ _ _ _ _ _ (PW.pt (cq (av fA (@aq _ _ _ _ _ _ _ au (pv 3) ae (λ_ _=>rfl)) (pv 1) rfl) (bN (av fA (@aq _ _ _ _ _ _ _ au (pv 3) ae (λ_ _=>rfl)) (pv 1) rfl)))) (@ag _ _ _ _ _ (qh (pv 2) (@aq _ _ _ _ _ _ _ au (pv 3) ae (λ_ _=>rfl)) lK ae tF set_list)
    (@aj _ _ _ (qh (pv 2) (@aq _ _ _ _ _ _ _ au (pv 3) ae (λ_ _=>rfl)) lK ae tF set_list))) aM)) (λ_=>rfl))
  (@aj _ _ _ (@aF _ _ _ _ (pv 2))))),?_⟩
 obtain ⟨t,e1,e2⟩:=W.at'
 have lum:(ts.map λu=>V.ref u.1).length=ts.length:=z4 _
 refine ⟨(by show 1<=Ao;decide),λo ho =>?_⟩
 have go:=ai ho (.lst [.int 0])
 refine ⟨_,rfl,r,_,0,_,rfl,rfl,SqT.of (go _ _ e1),rfl,o,_,_,rfl,rfl,ah,by lia,by lia,?_,λU hU =>?_⟩
 ·exact cy (by show 1*(m:Int).toNat<=5000;lia)
 have hU0:=go.free hU
 have gU:=go.trans (ai hU (.lst (AX (m:Int).toNat [V.int 0]).flatten))
 have LU:Lay m (upd (upd H o (.lst [.int 0])) U (.lst (AX (m:Int).toNat [V.int 0]).flatten)) U (tin ((ts.take 0).map (·.2)) P):=by
  refine ⟨AX m 0,?_,Di,λj hj =>?_⟩
  ·rw[ah]
   congr 2
   rw[show (m:Int).toNat=m by lia]
   exact rep0 m
  ·rw[Aq,List.getElem?_replicate_of_lt hj]
   rfl
 generalize upd (upd H o (.lst [.int 0])) U (.lst (AX (m:Int).toNat [V.int 0]).flatten)=H1 at gU LU
 let W0:Nat->St->Hp->Prop:=λi σ H'=>(∃c3,σ=[some (.ref r),some (.ref p),some (.ref U),c3])/\aA H H'/\Lay m H' U (tin ((ts.take i).map (·.2)) P)
 refine ⟨_,rfl,r,_,1,_,rfl,rfl,SqT.of (gU _ _ e1),rfl,t,rfl,⟨_,SqT.of (gU _ _ e2)⟩,iZ (xs:=ts.map λu =>.ref u.1) W0 ⟨⟨_,rfl⟩,gU,LU⟩ (λi σ H' _ h=>SqT.of (h.2.1 _ _ e2)) ?_ ?_⟩
 ·rintro i x σ H2 hx ⟨⟨c3,rfl⟩,s2,L,eL,lL,aL⟩
  obtain ⟨u,eu,rfl⟩:=j8 hx
  have um:=Aj eu
  obtain ⟨a,b,ab,a0,ab',bm⟩:=W.pr u um
  have eu2:=s2 _ _ (W.tup u um)
  have tk:∀v,tin ((ts.take (i+1)).map (·.2)) P v=tin ((ts.take i).map (·.2)) P v+if inn P u.2=true then ends v u.2 else 0:=λv=>by
   rw[<- oP,Bm,eu,AE];rfl
  have iv:inn P u.2=(decide (a∈P) && decide (b∈P)):=by rw[ab];rfl
  rw[ab] at eu2
  refine ⟨_,rfl,u.1,_,0,_,rfl,rfl,SqT.of eu2,rfl,_,rfl,p,_,rfl,.inr (SqT.of (s2 _ _ ep)),rfl,bo P,_,rfl,?_⟩
  show if inV (.int a) (P.map V.int)=true then _ else _
  rw[mL]
  by_cases ca:a∈P
  case neg =>
   rw[decide_eq_false ca]
   refine aX (aX ⟨⟨_,rfl⟩,s2,L,eL,lL,λj hj =>?_⟩)
   rw[aL j hj,tk,if_neg (by rw[iv,decide_eq_false ca,CT];exact Ak),He]
  rw[decide_eq_true ca]
  refine a9 ⟨_,rfl,u.1,_,1,_,rfl,rfl,SqT.of eu2,rfl,_,rfl,p,_,rfl,.inr (SqT.of (s2 _ _ ep)),rfl,bo P,_,rfl,?_⟩
  show if inV (.int b) (P.map V.int)=true then _ else _
  rw[mL]
  by_cases cb:b∈P
  case neg =>
   rw[decide_eq_false cb]
   refine aX ⟨⟨_,rfl⟩,s2,L,eL,lL,λj hj =>?_⟩
   rw[aL j hj,tk,if_neg (by rw[iv,decide_eq_false cb,CU];exact Ak),He]
  rw[decide_eq_true cb]
  obtain ⟨na,rfl⟩:∃n:Nat,a=n:=⟨a.toNat,by lia⟩
  obtain ⟨nb,rfl⟩:∃n:Nat,b=n:=⟨b.toNat,by lia⟩
  refine a9 ⟨_,rfl,_,rfl,u.1,_,0,_,rfl,rfl,SqT.of eu2,rfl,U,_,na,.int (L.getD na 0),rfl,rfl,SqL.of eL,(by rw[Aw,Ab (by lia),Aq,Ab (by lia)];rfl),_,_,rfl,rfl,U,_,na,na,rfl,rfl,eL,(by rw[z4];exact ixn (by lia)),?_⟩
  have s3:aA H (upd H2 U (.lst ((L.map V.int).set na (.int (L.getD na 0+1))))):=aA.bQ s2 hU0 _
  have e3:upd H2 U (.lst ((L.map V.int).set na (.int (L.getD na 0+1)))) U=some (.lst ((L.set na (L.getD na 0+1)).map V.int)):=by rw[ah,Hf]
  generalize upd H2 U (.lst ((L.map V.int).set na (.int (L.getD na 0+1))))=H3 at s3 e3
  have eu3:=s3 _ _ (W.tup u um)
  rw[ab] at eu3
  have l3:(L.set na (L.getD na 0+1)).length=m:=by rw[C6];exact lL
  have a3:∀j:Nat,(L.set na (L.getD na 0+1)).getD j 0=if j=na then L.getD na 0+1 else L.getD j 0:=λj=>oQ (by lia)
  generalize L.set na (L.getD na 0+1)=L3 at e3 l3 a3
  refine ⟨_,rfl,_,rfl,u.1,_,1,_,rfl,rfl,SqT.of eu3,rfl,U,_,nb,.int (L3.getD nb 0),rfl,rfl,SqL.of e3,(by rw[Aw,Ab (by lia),Aq,Ab (by lia)];rfl),_,_,rfl,rfl,U,_,nb,nb,rfl,rfl,e3,(by rw[z4];exact ixn (by lia)),⟨_,rfl⟩,aA.bQ s3 hU0 _,L3.set nb (L3.getD nb 0+1),by rw[ah,Hf],by rw[C6];exact l3,λj hj =>?_⟩
  have ivt:inn P u.2=true:=by rw[iv,decide_eq_true ca,decide_eq_true cb];rfl
  rw[oQ (by lia),a3 nb,a3 j,tk,if_pos ivt, <- aL j hj,ab]
  show _=L.getD j 0+((if (na:Int)=(j:Int) then (1:Int) else 0)+if (nb:Int)=(j:Int) then (1:Int) else 0)
  by_cases c1:j=nb <;> by_cases c2:j=na <;> by_cases c3:nb=na
  all_goals first | lia | (simp only[c1,c2,c3,if_true,if_false,Int.natCast_inj,eq_comm];try simp;try lia)
 ·rintro σ H2 ⟨⟨c3,rfl⟩,s2,L2⟩
  rw[lum,Cs] at L2
  exact ⟨_,rfl,q U _ s2 hU0 L2⟩
end
open PySem L2
structure Exs (K:z8)(mg:Str->Option z9)(n0:Addr):Prop where
 m0:mg "NOUGHT" = some (.ref n0)
 l0:∀H:Hp,Two K H n0 0 1
theorem Two.put {K:z8}{H:Hp}{p l:Addr}{a b:Int}{xs:List V}{o:HO}(h:Two K H p a b)(e:H l=some (.lst xs)):Two K (upd H l o) p a b:=by
 rcases h with (h | ⟨u,h⟩) | h
 ·exact .inl (.inl (by rw[aD (iK h e nofun)];exact h))
 ·exact .inl (.inr ⟨u,by rw[aD (iK h e nofun)];exact h⟩)
 ·exact .inr h
def fU (K:z8)(m:Nat)(H:Hp)(U:Addr)(g:Nat->Int×Int):Prop:=∃us:List (Addr×Int×Int),H U=some (.lst (us.map λu =>.ref u.1))/\us.length=m/\(∀u∈us,Two K H u.1 u.2.1 u.2.2)/\∀(j:Nat) u,us[j]? = some u->u.2=g j
theorem fU.same {K:z8}{m:Nat}{H H':Hp}{U:Addr}{g:Nat->Int×Int}(h:fU K m H U g)(s:aA H H'):fU K m H' U g:=by
 obtain ⟨us,e,l,t,v⟩:=h
 exact ⟨us,s _ _ e,l,λu hu=>(t u hu).same s,v⟩
theorem fU.put {K:z8}{m n:Nat}{H:Hp}{U z:Addr}{g:Nat->Int×Int}{us:List (Addr×Int×Int)}{a b:Int}(e:H U=some (.lst (us.map λu =>.ref u.1)))(l:us.length=m)(t:∀u∈us,Two K H u.1 u.2.1 u.2.2)(v:∀(j:Nat) u,us[j]? = some u->u.2=g j)(hn:n<m)(tz:Two K H z a b):fU K m (upd H U (.lst ((us.map λu=>V.ref u.1).set n (.ref z)))) U λj=>if j=n then (a,b) else g j:=by
 refine ⟨us.set n (z,a,b),by rw[ah,Hf],by rw[C6];exact l,λu hu =>?_,λj u hu =>?_⟩
 ·rcases List.mem_or_eq_of_mem_set hu with h | h
  ·exact (t u h).put e
  ·rw[h];exact tz.put e
 ·rw[G7] at hu
  dsimp only
  by_cases c:n=j
  ·subst c
   rw[if_pos rfl,if_pos (by lia)] at hu
   rw[if_pos rfl, <- AI hu]
  ·rw[if_neg c] at hu
   rw[if_neg (λz=>c z.symm)]
   exact v j u hu
def tkv (tie:Bool)(h:Int->Int)(s0 s1:Int)(S:List Int)(j:Nat):Int×Int:=if (j:Int)∈S then (if tie=true then (rt (s0*(h j-1)) s1,rb (s0*(h j-1)) s1) else (s0,s1)) else (0,1)
theorem zW (n0:Addr):∀m:Nat,(AX m [V.ref n0]).flatten=(AX m (n0,(0:Int),(1:Int))).map λu=>V.ref u.1
 | 0=>rfl
 | m+1=>by rw[BS,Ce,zW n0 m,BS];rfl
def wrd (tie:Bool):Str:=if tie=true then "ties" else "ring"
theorem yX {l:List (List Int)}(v:Int):0<=(l.map (ends v)).sum/\(l.map (ends v)).sum<=2*(l.length:Int):=by
 induction l with
 | nil=>exact ⟨Int.le_refl _,Int.le_refl _⟩
 | cons t l ih =>
  rw[AL,GN,AR]
  have h1:=xf v t
  have h2:ends v t<=2:=by unfold ends;split <;> split <;> lia
  lia
theorem vn (ns:List (List Int))(P:List Int)(v:Int):0<=tin ns P v/\tin ns P v<=2*(ns.length:Int):=by
 unfold tin
 have h:=yX (l:=ns.filter (inn P)) v
 have:=Cg (inn P) ns
 lia
theorem fv {i:Int}(h0 : -100000<i)(h1:i<100000):Sm i:=by
 unfold Sm
 exact Ax (by omega:i.natAbs<100000) (by decide +kernel)
theorem wd1:Wd 1:=by unfold Wd;decide +kernel
structure Lyr (K:z8)(H:Hp)(la:Addr)(tie:Bool)(m:Nat)(P:List Int)(s0 s1:Int):Prop where
 at':∃pl sh,H la=some (.tup [.str (wrd tie),.ref pl,.ref sh])/\H pl=some (.tup (P.map V.int))/\Two K H sh s0 s1
 rng:∀v∈P,0<=v/\v<m
 len:P.length<=200
 pos:0<s1
 sa:Sm s0
 sb:Sm s1
 low:j6 s0 s1=true
theorem Lyr.same {K:z8}{H H':Hp}{la:Addr}{tie:Bool}{m:Nat}{P:List Int}{s0 s1:Int}(h:Lyr K H la tie m P s0 s1)(s:aA H H'):Lyr K H' la tie m P s0 s1:=by
 obtain ⟨pl,sh,e1,e2,e3⟩:=h.at'
 exact ⟨⟨pl,sh,s _ _ e1,s _ _ e2,e3.same s⟩,h.rng,h.len,h.pos,h.sa,h.sb,h.low⟩
theorem kg {tie:Bool}:decide (V.str (wrd tie)=V.str "ties")=tie:=by
 cases tie with
 | true=>exact decide_eq_true rfl
 | false=>exact decide_eq_false λz=>absurd (V.str.inj z) (by decide +kernel)
theorem kh {tie:Bool}:decide (V.str (wrd tie)=V.str "ring") = !tie:=by
 cases tie with
 | true=>exact decide_eq_false λz=>absurd (V.str.inj z) (by decide +kernel)
 | false=>exact decide_eq_true rfl
theorem eC (x y:Int):rt x (y*1)=rt x y/\rb x (y*1)=rb x y:=by rw[Int.mul_one];exact ⟨rfl,rfl⟩
@[irreducible] def fO (K:z8):Sp:=λvs H Q _=>∃(r la:Addr) (m:Nat) (ts:List (Addr×List Int)) (tie:Bool) (P:List Int) (s0 s1:Int),vs=[.ref r,.ref la]/\Wb H r m ts/\m<=40/\Lyr K H la tie m P s0 s1/\∀(U:Addr) (H':Hp),aA H H'->H U=none->fU K m H' U (tkv tie (tin (ts.map (·.2)) P) s0 s1 P)->Q (.ref U) H'
theorem bX {K:z8}{vs:List V}{H:Hp}{Q:VK}{E:XK}:fO K vs H Q E↔∃(r la:Addr) (m:Nat) (ts:List (Addr×List Int)) (tie:Bool) (P:List Int) (s0 s1:Int),vs=[.ref r,.ref la]/\Wb H r m ts/\m<=40/\Lyr K H la tie m P s0 s1/\∀(U:Addr) (H':Hp),aA H H'->H U=none->fU K m H' U (tkv tie (tin (ts.map (·.2)) P) s0 s1 P)->Q (.ref U) H':=by
 delta fO
 exact Cp
section
variable  {P:Au}{w:AV}{K:z8}{mg:Str->Option z9}{base:Heap}{f T:Addr}{fd:A3}
theorem cR:aE ["web", "layer", "takes", "counts", "place"] ["web", "layer"] (ak fc):=⟨rfl,rfl,rfl,by decide +kernel,rfl,by decide +kernel,by decide +kernel⟩
theorem nr {n0:Addr}(Z:Exs K mg n0)(F:Fun K "layer_takes" "layer_takes" fc f fd)(B:Blt mg)(cTiesAmong:Cal P w K mg base 1 "ties_among" ["web", "places"] jj)(cRatioTimes:Cal P w K mg base 3 "ratio_times" ["one", "other"] (vc K))(cRatioOfD:wH P w K mg base 2 "ratio_of" ["top", "bottom"] (kE K) (.int 1)):a7 P w K mg base CX0 4 f fd ["web", "layer"] (fO K):=by
 refine F.ok cR (λvs H Q E h =>?_) (λcdv A outer s H vs Q E hr h =>?_)
 ·obtain ⟨_,_,_,_,_,_,_,_,rfl,_⟩:=bX.mp h
  rfl
 obtain ⟨r,la,m,ts,tie,P,s0,s1,rfl,W,m4,LY,q⟩:=bX.mp h
 refine ⟨_,(@ag _ _ _ _ _ (@ax _ _ 2 _ _ _ _ cR.nd rfl (Or.inl rfl) (@az _ _ _ _ _ _ _ _ tV (@cJ _ _ _ _ (@aa _ _ _ _ _ (vE (v :=.ref n0) rfl Z.m0 rfl) af rfl)) (@aq _ _ _ _ _ _ _ au (pv 0) ae (λ_ _=>rfl))) rfl (by first | exact .inl rfl | exact .inr rfl | assumption))
  (@ag _ _ _ _ _ (@ax _ _ 3 _ _ _ _ cR.nd rfl (Or.inl rfl) (ay cTiesAmong hr (by decide) rfl (@aa _ _ _ _ _ (pv 0) (@aa _ _ _ _ _ (@aq _ _ _ _ _ _ _ au (pv 1) ae (λ_ _=>rfl)) af rfl) rfl)) rfl (by first | exact .inl rfl | exact .inr rfl | assumption))
  (@ag _ _ _ _ _ (@cf _ _ _ _ _ _ _ _ Bh rfl (@gf _ _ _ _ (@aq _ _ _ _ _ _ _ au (pv 1) ae (λ_ _=>rfl))) (aH (i:=4) cR.nd rfl (Or.inl rfl))
   (@ag _ _ _ _ _ (@f9 _ _ _ _ _ _ (@aq _ _ _ _ _ _ _ au (pv 1) ae (λ_ _=>rfl)) (mf (pv 2) (pv 4) set_list) rfl rfl rfl)
   (@aj _ _ _ (@aZ _ _ _ _ _ _ _ _ (av cp (@aq _ _ _ _ _ _ _ au (pv 1) ae (λ_ _=>rfl)) eE (aJ _)) (@aj _ _ _ (@f9 _ _ _ _ _ _ (ay cRatioTimes hr (by decide) rfl (@aa _ _ _ _ _ (@aq _ _ _ _ _ _ _ au (pv 1) ae (λ_ _=>rfl)) (@aa _ _ _ _ _ (qF cRatioOfD hr (by decide) rfl (@aa _ _ _ _ _ (@az _ _ _ _ _ _ _ _ gh (@aq _ _ _ _ _ _ _ bq (pv 3) (pv 4) (λ_ _=>rfl)) ae) af rfl)) af rfl) rfl)) (mf (pv 2) (pv 4) set_list) rfl rfl rfl)) aM))) (λ_=>rfl))
  (@aj _ _ _ (@aF _ _ _ _ (pv 2)))))),?_⟩
 obtain ⟨t,e1,e2⟩:=W.at'
 obtain ⟨pl,sh,ea,ep,es⟩:=LY.at'
 have tl:=W.len
 refine ⟨(by show 1<=Ao;decide),λo ho =>?_⟩
 have go:=ai ho (.lst [.ref n0])
 refine ⟨_,rfl,r,_,0,_,rfl,rfl,SqT.of (go _ _ e1),rfl,o,_,_,rfl,rfl,ah,by lia,by lia,?_,λU hU =>?_⟩
 ·exact cy (by show 1*(m:Int).toNat<=5000;lia)
 have hU0:=go.free hU
 have gU:=go.trans (ai hU (.lst (AX (m:Int).toNat [V.ref n0]).flatten))
 have LU:fU K m (upd (upd H o (.lst [.ref n0])) U (.lst (AX (m:Int).toNat [V.ref n0]).flatten)) U (tkv tie (tin (ts.map (·.2)) P) s0 s1 (P.take 0)):=by
  refine ⟨AX m (n0,0,1),?_,Di,λu hu =>?_,λj u hu =>?_⟩
  ·rw[ah]
   congr 2
   rw[show (m:Int).toNat=m by lia]
   exact zW n0 m
  ·rw[Fv hu];exact Z.l0 _
  ·have:=Fv (Aj hu)
   rw[this];rfl
 generalize upd (upd H o (.lst [.ref n0])) U (.lst (AX (m:Int).toNat [V.ref n0]).flatten)=H1 at gU LU
 refine ⟨_,rfl,_,rfl,la,_,1,_,rfl,rfl,SqT.of (gU _ _ ea),rfl,fq.mpr ⟨r,pl,m,ts,P,rfl,W.same gU,m4,gU _ _ ep,λC H2 s2 hC LC =>?_⟩⟩
 have g2:=gU.trans s2
 have L2:=LU.same s2
 have nCU:C≠U:=λz=>by
  obtain ⟨us,e,_⟩:=LU
  rw[z,e] at hC;cases hC
 let W0:Nat->St->Hp->Prop:=λi σ H'=>(∃c4,σ=[some (.ref r),some (.ref la),some (.ref U),some (.ref C),c4])/\aA H H'/\fU K m H' U (tkv tie (tin (ts.map (·.2)) P) s0 s1 (P.take i))/\Lay m H' C (tin (ts.map (·.2)) P)
 refine ⟨_,rfl,la,_,1,_,rfl,rfl,SqT.of (g2 _ _ ea),rfl,pl,rfl,⟨_,SqT.of (g2 _ _ ep)⟩,iZ (xs:=P.map V.int) W0 ⟨⟨_,rfl⟩,g2,L2,LC⟩ (λi σ H' _ h=>SqT.of (h.2.1 _ _ ep)) ?_ ?_⟩
 ·rintro i x σ H3 hx ⟨⟨c4,rfl⟩,s3,⟨us,eU,lU,tU,vU⟩,L,eL,lL,aL⟩
  obtain ⟨v,ev,rfl⟩:=oF hx
  obtain ⟨v0,v1⟩:=LY.rng v (Aj ev)
  obtain ⟨n,rfl⟩:∃n:Nat,v=n:=⟨v.toNat,by lia⟩
  have hn:n<m:=by lia
  have mem:∀j:Nat,((j:Int)∈P.take (i+1))↔(j=n\/(j:Int)∈P.take i):=λj=>by
   rw[Bm,ev,As]
   constructor
   ·rintro (z | z)
    ·exact .inr z
    ·have:(j:Int)=n:=by simpa using z
     exact .inl (by lia)
   ·rintro (z | z)
    ·exact .inr (by rw[z];simp)
    ·exact .inl z
  have T4:=fU.put eU lU tU vU hn (es.same s3)
  have s4:aA H (upd H3 U (.lst ((us.map λu=>V.ref u.1).set n (.ref sh)))):=aA.bQ s3 hU0 _
  have eL4:upd H3 U (.lst ((us.map λu=>V.ref u.1).set n (.ref sh))) C=some (.lst (L.map V.int)):=by rw[aD nCU];exact eL
  refine ⟨_,rfl,la,_,2,_,rfl,rfl,SqT.of (s3 _ _ ea),rfl,_,rfl,_,rfl,U,_,n,n,rfl,rfl,eU,(by rw[z4];exact ixn (by lia)),?_⟩
  generalize upd H3 U (.lst ((us.map λu=>V.ref u.1).set n (.ref sh)))=H4 at T4 s4 eL4
  refine ⟨_,rfl,la,_,0,_,rfl,rfl,SqT.of (s4 _ _ ea),rfl,rfl,_,rfl,?_⟩
  rw[kg]
  cases tie with
  | false =>
   refine aX ⟨⟨_,rfl⟩,s4,?_,L,eL4,lL,aL⟩
   obtain ⟨us',a1,a2,a3,a4⟩:=T4
   refine ⟨us',a1,a2,a3,λj u hu =>?_⟩
   rw[a4 j u hu]
   unfold tkv
   dsimp only
   by_cases c:j=n
   ·rw[if_pos c,if_pos ((mem j).mpr (.inl c))];rfl
   ·rw[if_neg c]
    by_cases d:(j:Int)∈P.take i
    ·rw[if_pos d,if_pos ((mem j).mpr (.inr d))]
    ·rw[if_neg d,if_neg λh=>((mem j).mp h).elim c d]
  | true =>
   have tb:=vn (ts.map (·.2)) P n
   rw[z4] at tb
   have vC:L.getD n 0=tin (ts.map (·.2)) P n:=aL n hn
   refine a9 ⟨_,rfl,la,_,2,_,rfl,rfl,SqT.of (s4 _ _ ea),rfl,_,rfl,_,rfl,C,_,n,_,rfl,rfl,SqL.of eL4,getV (by lia),_,_,rfl,rfl,bS.mpr ⟨L.getD n 0-1,1,rfl,by decide,wd1,λz H5 s5 tz =>?_⟩⟩
   rw[(m7 _).1,(m7 _).2,vC] at tz
   refine gY.mpr ⟨sh,z,s0,s1,tin (ts.map (·.2)) P n-1,1,rfl,(es.same s4).same s5,tz,⟨LY.pos,by decide⟩,⟨LY.sa,LY.sb,fv (by lia) (by lia),fv (by decide) (by decide)⟩,λy H6 s6 ty =>?_⟩
   rw[(eC _ _).1,(eC _ _).2] at ty
   have s56:=s5.trans s6
   obtain ⟨us',a1,a2,a3,a4⟩:=T4.same s56
   have T7:=fU.put a1 a2 a3 a4 hn ty
   refine ⟨_,rfl,_,rfl,U,_,n,n,rfl,rfl,a1,(by rw[z4];exact ixn (by lia)),⟨_,rfl⟩,aA.bQ (s4.trans s56) hU0 _,?_,L,by rw[aD nCU];exact s56 _ _ eL4,lL,aL⟩
   obtain ⟨us',a1,a2,a3,a4⟩:=T7
   refine ⟨us',a1,a2,a3,λj u hu =>?_⟩
   rw[a4 j u hu]
   unfold tkv
   dsimp only
   by_cases c:j=n
   ·rw[if_pos c,if_pos ((mem j).mpr (.inl c)),c];rfl
   ·rw[if_neg c,if_neg c]
    by_cases d:(j:Int)∈P.take i
    ·rw[if_pos d,if_pos ((mem j).mpr (.inr d))]
    ·rw[if_neg d,if_neg λh=>((mem j).mp h).elim c d]
 ·rintro σ H3 ⟨⟨c4,rfl⟩,s3,T3,_⟩
  rw[z4,Cs] at T3
  exact ⟨_,rfl,q U _ s3 hU0 T3⟩
end
def bnv (tie:Bool)(ns:List (List Int))(P:List Int)(s0 s1:Int):Int×Int:=if tie=true then (rt (s0*(((ns.filter (inn P)).length:Int)-(P.length:Int)+1)) s1,rb (s0*(((ns.filter (inn P)).length:Int)-(P.length:Int)+1)) s1) else (s0,s1)
@[irreducible] def fP (K:z8):Sp:=λvs H Q _=>∃(r la:Addr) (m:Nat) (ts:List (Addr×List Int)) (tie:Bool) (P:List Int) (s0 s1:Int),vs=[.ref r,.ref la]/\Wb H r m ts/\Lyr K H la tie m P s0 s1/\∀(z:Addr) (H':Hp),aA H H'->Two K H' z (bnv tie (ts.map (·.2)) P s0 s1).1 (bnv tie (ts.map (·.2)) P s0 s1).2->Q (.ref z) H'
theorem bY {K:z8}{vs:List V}{H:Hp}{Q:VK}{E:XK}:fP K vs H Q E↔∃(r la:Addr) (m:Nat) (ts:List (Addr×List Int)) (tie:Bool) (P:List Int) (s0 s1:Int),vs=[.ref r,.ref la]/\Wb H r m ts/\Lyr K H la tie m P s0 s1/\∀(z:Addr) (H':Hp),aA H H'->Two K H' z (bnv tie (ts.map (·.2)) P s0 s1).1 (bnv tie (ts.map (·.2)) P s0 s1).2->Q (.ref z) H':=by
 delta fP
 exact Cp
section
variable  {P:Au}{w:AV}{K:z8}{mg:Str->Option z9}{base:Heap}{f T:Addr}{fd:A3}
theorem nu:aE ["web", "layer"] ["web", "layer"] (ak fe):=⟨rfl,rfl,rfl,by decide +kernel,rfl,by decide +kernel,by decide +kernel⟩
theorem nz (F:Fun K "layer_bound" "layer_bound" fe f fd)(B:Blt mg)(cRatioTimes:Cal P w K mg base 3 "ratio_times" ["one", "other"] (vc K))(cRatioOfD:wH P w K mg base 2 "ratio_of" ["top", "bottom"] (kE K) (.int 1))(cTiesWithin:Cal P w K mg base 1 "ties_within" ["web", "places"] gZ):a7 P w K mg base CX0 4 f fd ["web", "layer"] (fP K):=by
 refine F.ok nu (λvs H Q E h =>?_) (λcdv A outer s H vs Q E hr h =>?_)
 ·obtain ⟨_,_,_,_,_,_,_,_,rfl,_⟩:=bY.mp h
  rfl
 obtain ⟨r,la,m,ts,tie,P,s0,s1,rfl,W,LY,q⟩:=bY.mp h
 refine ⟨_,(@ag _ _ _ _ _ (@aZ _ _ _ _ _ _ _ _ (av cp (@aq _ _ _ _ _ _ _ au (pv 1) ae (λ_ _=>rfl)) eE (aJ _)) (@aj _ _ _ (@aF _ _ _ _ (@aq _ _ _ _ _ _ _ au (pv 1) ae (λ_ _=>rfl)))) aM)
  (@aj _ _ _ (@aF _ _ _ _ (ay cRatioTimes hr (by decide) rfl (@aa _ _ _ _ _ (@aq _ _ _ _ _ _ _ au (pv 1) ae (λ_ _=>rfl)) (@aa _ _ _ _ _ (qF cRatioOfD hr (by decide) rfl (@aa _ _ _ _ _ (@az _ _ _ _ _ _ _ _ bh (@az _ _ _ _ _ _ _ _ gh (ay cTiesWithin hr (by decide) rfl (@aa _ _ _ _ _ (pv 0) (@aa _ _ _ _ _ (@aq _ _ _ _ _ _ _ au (pv 1) ae (λ_ _=>rfl)) af rfl) rfl)) (aB aO rfl B.b_len bV (@aa _ _ _ _ _ (@aq _ _ _ _ _ _ _ au (pv 1) ae (λ_ _=>rfl)) af rfl))) ae) af rfl)) af rfl) rfl))))),?_⟩
 obtain ⟨pl,sh,ea,ep,es⟩:=LY.at'
 have tl:=W.len
 have pl2:=LY.len
 refine ⟨_,rfl,la,_,0,_,rfl,rfl,SqT.of ea,rfl,rfl,_,rfl,?_⟩
 rw[kh]
 cases tie with
 | false=>exact a9 ⟨_,rfl,la,_,2,_,rfl,rfl,SqT.of ea,rfl,q sh _ (aA.refl _) es⟩
 | true =>
  refine aX ⟨_,rfl,la,_,2,_,rfl,rfl,SqT.of ea,rfl,_,rfl,_,rfl,la,_,1,_,rfl,rfl,SqT.of ea,rfl,eB.mpr ⟨r,pl,m,ts,P,rfl,W,ep,λH1 s1' =>?_⟩⟩
  have fl:((ts.map (·.2)).filter (inn P)).length<=ts.length:=by
   have:=Cg (inn P) (ts.map (·.2))
   rw[z4] at this
   exact this
  refine ⟨_,rfl,la,_,1,_,rfl,rfl,SqT.of (s1' _ _ ea),rfl,pl,_,rfl,.inr (SqT.of (s1' _ _ ep)),_,_,rfl,rfl,_,_,rfl,rfl,?_⟩
  rw[z4]
  refine bS.mpr ⟨_,1,rfl,by decide,wd1,λz H5 s5 tz =>?_⟩
  rw[(m7 _).1,(m7 _).2] at tz
  refine gY.mpr ⟨sh,z,s0,s1,_,1,rfl,(es.same s1').same s5,tz,⟨LY.pos,by decide⟩,⟨LY.sa,LY.sb,fv (by lia) (by lia),fv (by decide) (by decide)⟩,λy H6 s6 ty =>?_⟩
  rw[(eC _ _).1,(eC _ _).2] at ty
  exact q y _ (s1'.trans (s5.trans s6)) ty
end
open PySem L2
def Dn (H:Hp)(d:Addr)(P:List Int)(f:Int->Int)(n:Nat):Prop:=∃kvs:List (Key×V),H d=some (.dK kvs)/\(∀v:Int,bZ kvs (.inl v)=if v∈P then some (.int (f v)) else none)/\kvs.length<=n
theorem Dn.same {H H':Hp}{d:Addr}{P:List Int}{f:Int->Int}{n:Nat}(h:Dn H d P f n)(s:aA H H'):Dn H' d P f n:=by
 obtain ⟨kvs,e,r⟩:=h
 exact ⟨kvs,s _ _ e,r⟩
theorem Dn.get {H:Hp}{d:Addr}{P:List Int}{f:Int->Int}{n:Nat}(h:Dn H d P f n)(v:Int):gn H d (.int v) (if v∈P then some (.int (f v)) else none):=by
 obtain ⟨kvs,e,r,_⟩:=h
 rw[<- r v]
 exact gn.k (k :=.inl v) e
theorem Dn.put {H:Hp}{d:Addr}{P:List Int}{f:Int->Int}{n:Nat}{v x:Int}(h:Dn H d P f n)(hn:n<4000):∃H',om H d (.int v) (.int x) H'/\(∀b,b≠d->H' b=H b)/\∀(P':List Int) (f':Int->Int),(∀u,u∈P'↔u=v\/u∈P)->(∀u,f' u=if u=v then x else f u)->Dn H' d P' f' (n+1):=by
 obtain ⟨kvs,e,r,l⟩:=h
 refine ⟨_,om.k (k :=.inl v) (v :=.int x) e (cK (by lia)),λb hb=>aD hb,λP' f' hP hf=>⟨_,ah,λu =>?_,?_⟩⟩
 ·rw[uF,r u,hf u]
  by_cases c:u=v
  ·subst c
   rw[if_pos rfl,if_pos ((hP u).mpr (.inl rfl)),if_pos rfl]
  ·rw[if_neg (λz=>c (Ie z)),if_neg c]
   by_cases d:u∈P
   ·rw[if_pos d,if_pos ((hP u).mpr (.inr d))]
   ·rw[if_neg d,if_neg λz=>((hP u).mp z).elim c d]
 ·have:=de kvs (.inl v) (.int x)
  lia
theorem aA.off {H H1 H2:Hp}{d:Addr}(s:aA H H1)(hd:H d=none)(o:∀b,b≠d->H2 b=H1 b):aA H H2:=λb u e=>by
 rw[o b (aN e hd)]
 exact s b u e
abbrev vo:Sp:=λvs H Q _=>∃(r p:Addr) (m:Nat) (ts:List (Addr×List Int)) (P:List Int),vs=[.ref r,.ref p]/\Wb H r m ts/\(H p=some (.lst (P.map V.int))\/H p=some (.tup (P.map V.int)))/\P.length<=200/\∀(d:Addr) (H':Hp),aA H H'->H d=none->Dn H' d P (tin (ts.map (·.2)) P) 1000->Q (.ref d) H'
@[irreducible] def l6:Sp:=vo
theorem dH {vs:List V}{H:Hp}{Q:VK}{E:XK}:l6 vs H Q E↔vo vs H Q E:=by
 delta l6
 exact Cp
section
variable  {P:Au}{w:AV}{K:z8}{mg:Str->Option z9}{base:Heap}{f T:Addr}{fd:A3}
theorem fQ:aE ["web", "places", "found", "place", "tie"] ["web", "places"] (ak gW):=⟨rfl,rfl,rfl,by decide +kernel,rfl,by decide +kernel,by decide +kernel⟩
theorem sT (F:Fun K "_law_ties_in" "_law_ties_in" gW f fd)(B:Blt mg):a7 P w K mg base CX0 1 f fd ["web", "places"] l6:=by
 refine F.ok fQ (λvs H Q E h =>?_) (λcdv A outer s H vs Q E hr h =>?_)
 ·obtain ⟨_,_,_,_,_,rfl,_⟩:=dH.mp h
  rfl
 obtain ⟨r,p,m,ts,Pl,rfl,W,hp,lP,q⟩:=dH.mp h
 have hu:(iU CX0 P w K mg base ["web", "places", "found", "place", "tie"] "_law_ties_in" (ak gW) f cdv A outer s H E).nox.A.units+1<cLine:=nJ hr
 refine ⟨_,(@ag _ _ _ _ _ (@ax _ _ 2 _ _ _ _ fQ.nd rfl (Or.inl rfl) uI rfl (by first | exact .inl rfl | exact .inr rfl | assumption))
  (@ag _ _ _ _ _ (@cf _ _ _ _ _ _ _ _ Bh rfl (yy (pv 1)) (aH (i:=3) fQ.nd rfl (Or.inl rfl))
   (@aj _ _ _ (i6 hu (pv 2) (pv 3) ae rfl)) (λ_=>rfl))
  (@ag _ _ _ _ _ (@cf _ _ _ _ _ _ _ _ Bh rfl (@gf _ _ _ _ (@aq _ _ _ _ _ _ _ au (pv 0) ae (λ_ _=>rfl))) (aH (i:=4) fQ.nd rfl (Or.inl rfl))
   (@aj _ _ _ (@aZ _ _ _ _ _ _ _ _ (PW.pt (cq (dM (ir hu (@aq _ _ _ _ _ _ _ au (pv 4) ae (λ_ _=>rfl)) (pv 2))) (bN (dM (ir hu (@aq _ _ _ _ _ _ _ au (pv 4) ae (λ_ _=>rfl)) (pv 2)))))) (@ag _ _ _ _ _ (i6 hu (pv 2) (@aq _ _ _ _ _ _ _ au (pv 4) ae (λ_ _=>rfl)) (@az _ _ _ _ _ _ _ _ bh (gQ hu (pv 2) (@aq _ _ _ _ _ _ _ au (pv 4) ae (λ_ _=>rfl)) (λ_ _=>rfl)) ae) rfl)
    (@aj _ _ _ (i6 hu (pv 2) (@aq _ _ _ _ _ _ _ au (pv 4) ae (λ_ _=>rfl)) (@az _ _ _ _ _ _ _ _ bh (gQ hu (pv 2) (@aq _ _ _ _ _ _ _ au (pv 4) ae (λ_ _=>rfl)) (λ_ _=>rfl)) ae) rfl))) aM)) (λ_=>rfl))
  (@aj _ _ _ (@aF _ _ _ _ (pv 2)))))),?_⟩
 obtain ⟨t,e1,e2⟩:=W.at'
 have tl:=W.len
 have lum:(ts.map λu=>V.ref u.1).length=ts.length:=z4 _
 refine λd hd =>?_
 have s1:=ai hd (.dK [])
 have D1:Dn (upd H d (.dK [])) d (Pl.take 0) (λ_=>0) 0:=⟨[],ah,λv=>rfl,Ag _⟩
 generalize upd H d (.dK [])=H1 at s1 D1
 refine ⟨_,rfl,p,rfl,xg (xs:=Pl.map V.int) (λi σ H'=>(∃c3,σ=[some (.ref r),some (.ref p),some (.ref d),c3,none])/\aA H H'/\Dn H' d (Pl.take i) (λ_=>0) i) (hp.imp (s1 _ _) (s1 _ _)) ⟨⟨_,rfl⟩,s1,D1⟩ (λi σ H' h=>by rcases hp with z | z <;> rw[h.2.1 _ _ z,s1 _ _ z]) ?_ ?_⟩
 ·rintro i x σ H2 hx ⟨⟨c3,rfl⟩,s2,D2⟩
  obtain ⟨v,ev,rfl⟩:=oF hx
  have hi:=(Af.mp ev).1
  obtain ⟨H3,dp,ho,hD⟩:=D2.put (v:=v) (x:=0) (by lia)
  refine ⟨_,rfl,_,rfl,d,H3,rfl,dp,⟨_,rfl⟩,aA.off s2 hd ho,hD _ _ (λu =>?_) λu=>by split <;> rfl⟩
  rw[Bm,ev,As]
  constructor
  ·rintro (z | z)
   ·exact .inr z
   ·exact .inl (by simpa using z)
  ·rintro (z | z)
   ·exact .inr (by rw[z];simp)
   ·exact .inl z
 rintro σ H2 ⟨⟨c3,rfl⟩,s2,D2⟩
 rw[z4,Cs] at D2
 have D2:Dn H2 d Pl (tin ((ts.take 0).map (·.2)) Pl) (Pl.length+2*0):=D2
 let W0:Nat->St->Hp->Prop:=λi σ H'=>(∃c4,σ=[some (.ref r),some (.ref p),some (.ref d),c3,c4])/\aA H H'/\Dn H' d Pl (tin ((ts.take i).map (·.2)) Pl) (Pl.length+2*i)
 refine ⟨_,rfl,r,_,1,_,rfl,rfl,SqT.of (s2 _ _ e1),rfl,t,rfl,⟨_,SqT.of (s2 _ _ e2)⟩,iZ (xs:=ts.map λu =>.ref u.1) W0 ⟨⟨_,rfl⟩,s2,D2⟩ (λi σ H' _ h=>SqT.of (h.2.1 _ _ e2)) ?_ ?_⟩
 ·rintro i x σ H3 hx ⟨⟨c4,rfl⟩,s3,D3⟩
  obtain ⟨u,eu,rfl⟩:=j8 hx
  have hi:=(Af.mp eu).1
  have um:=Aj eu
  obtain ⟨a,b,ab,a0,ab',bm⟩:=W.pr u um
  have eu3:=s3 _ _ (W.tup u um)
  have tk:∀v,tin ((ts.take (i+1)).map (·.2)) Pl v=tin ((ts.take i).map (·.2)) Pl v+if inn Pl u.2=true then ends v u.2 else 0:=λv=>by
   rw[<- oP,Bm,eu,AE];rfl
  have iv:inn Pl u.2=(decide (a∈Pl) && decide (b∈Pl)):=by rw[ab];rfl
  have no:inn Pl u.2=false->Dn H3 d Pl (tin ((ts.take (i+1)).map (·.2)) Pl) (Pl.length+2*(i+1)):=λz=>by
   obtain ⟨kvs,e,r,l⟩:=D3
   refine ⟨kvs,e,λv =>?_,by lia⟩
   have zt:¬ inn Pl u.2=true:=by rw[z];exact Ak
   rw[r v,tk,if_neg zt,He]
  rw[ab] at eu3
  refine ⟨_,rfl,u.1,_,0,_,rfl,rfl,SqT.of eu3,rfl,_,rfl,d,_,rfl,D3.get a,_,rfl,?_⟩
  by_cases ca:a∈Pl
  case neg =>
   rw[if_neg ca]
   exact aX (aX ⟨⟨_,rfl⟩,s3,no (by rw[iv,decide_eq_false ca,CT])⟩)
  rw[if_pos ca]
  refine a9 ⟨_,rfl,u.1,_,1,_,rfl,rfl,SqT.of eu3,rfl,_,rfl,d,_,rfl,D3.get b,_,rfl,?_⟩
  by_cases cb:b∈Pl
  case neg =>
   rw[if_neg cb]
   exact aX ⟨⟨_,rfl⟩,s3,no (by rw[iv,decide_eq_false cb,CU])⟩
  rw[if_pos cb]
  have ga:=D3.get a
  rw[if_pos ca] at ga
  obtain ⟨H4,dp4,ho4,hD4⟩:=D3.put (v:=a) (x:=tin ((ts.take i).map (·.2)) Pl a+1) (by lia)
  refine a9 ⟨_,rfl,_,rfl,u.1,_,0,_,rfl,rfl,SqT.of eu3,rfl,d,_,rfl,ga,_,_,rfl,rfl,_,rfl,_,rfl,u.1,_,0,_,rfl,rfl,SqT.of eu3,rfl,d,H4,rfl,dp4,?_⟩
  have s4:=aA.off s3 hd ho4
  have D4:=hD4 Pl (λv=>if v=a then tin ((ts.take i).map (·.2)) Pl a+1 else tin ((ts.take i).map (·.2)) Pl v) (λv=>⟨.inr,λz=>z.elim (λz=>z ▸ ca) id⟩) λv=>rfl
  have eu4:=s4 _ _ (W.tup u um)
  rw[ab] at eu4
  have gb:=D4.get b
  rw[if_pos cb] at gb
  obtain ⟨H5,dp5,ho5,hD5⟩:=D4.put (v:=b) (x:=(if b=a then tin ((ts.take i).map (·.2)) Pl a+1 else tin ((ts.take i).map (·.2)) Pl b)+1) (by lia)
  refine ⟨_,rfl,_,rfl,u.1,_,1,_,rfl,rfl,SqT.of eu4,rfl,d,_,rfl,gb,_,_,rfl,rfl,_,rfl,_,rfl,u.1,_,1,_,rfl,rfl,SqT.of eu4,rfl,d,H5,rfl,dp5,⟨_,rfl⟩,aA.off s4 hd ho5,?_⟩
  have ivt:inn Pl u.2=true:=by rw[iv,decide_eq_true ca,decide_eq_true cb];rfl
  have D5:=hD5 Pl (tin ((ts.take (i+1)).map (·.2)) Pl) (λv=>⟨.inr,λz=>z.elim (λz=>z ▸ cb) id⟩) λv=>by
   rw[tk,if_pos ivt,ab]
   show _+((if a=v then (1:Int) else 0)+if b=v then (1:Int) else 0)=_
   by_cases c1:v=b <;> by_cases c2:v=a <;> by_cases c3:b=a
   all_goals first | lia | (simp only[c1,c2,c3,if_true,if_false,eq_comm];try simp;try lia)
  obtain ⟨kvs,x1,x2,x3⟩:=D5
  exact ⟨kvs,x1,x2,by lia⟩
 ·rintro σ H3 ⟨⟨c4,rfl⟩,s3,D3⟩
  rw[lum,Cs] at D3
  obtain ⟨kvs,x1,x2,x3⟩:=D3
  exact ⟨_,rfl,q d _ s3 hd ⟨kvs,x1,x2,by lia⟩⟩
end
abbrev rj:Sp:=λvs H Q _=>∃(r p:Addr) (m:Nat) (ts:List (Addr×List Int)) (P:List Int),vs=[.ref r,.ref p]/\Wb H r m ts/\H p=some (.tup (P.map V.int))/\P.length<=200/\∀(z:Addr) (B:List Int) (H':Hp),aA H H'->H' z=some (.tup (B.map V.int))->(∀v∈B,v∈P)->B.length<=P.length->(∀v∈B,1<tin (ts.map (·.2)) B v)->Q (.ref z) H'
@[irreducible] def nA:Sp:=rj
theorem gA {vs:List V}{H:Hp}{Q:VK}{E:XK}:nA vs H Q E↔rj vs H Q E:=by
 delta nA
 exact Cp
section
variable  {P:Au}{w:AV}{K:z8}{mg:Str->Option z9}{base:Heap}{f T:Addr}{fd:A3}
theorem fR:aE ["web", "places", "kept", "many", "ties"] ["web", "places"] (ak mP):=⟨rfl,rfl,rfl,by decide +kernel,rfl,by decide +kernel,by decide +kernel⟩
theorem gB:(["place", "ties"]:List Str).Nodup:=by decide +kernel
theorem xh (F:Fun K "_law_base" "_law_base" mP f fd)(B:Blt mg)(cLTiesIn:Cal P w K mg base 1 "_law_ties_in" ["web", "places"] l6):a7 P w K mg base CX0 2 f fd ["web", "places"] nA:=by
 refine F.ok fR (λvs H Q E h =>?_) (λcdv A outer s H vs Q E hr h =>?_)
 ·obtain ⟨_,_,_,_,_,rfl,_⟩:=gA.mp h
  rfl
 obtain ⟨r,p,m,ts,Pl,rfl,W,ep,lP,q⟩:=gA.mp h
 have hu:(iU CX0 P w K mg base ["web", "places", "kept", "many", "ties"] "_law_base" (ak mP) f cdv A outer s H E).nox.A.units+1<cLine:=nJ hr
 refine ⟨_,(@ag _ _ _ _ _ (@ax _ _ 2 _ _ _ _ fR.nd rfl (Or.inl rfl) (bj mv rfl B.b_list qJ (@aa _ _ _ _ _ (pv 1) af rfl)) rfl (by first | exact .inl rfl | exact .inr rfl | assumption))
  (@ag _ _ _ _ _ (@ax _ _ 3 _ _ _ _ fR.nd rfl (Or.inl rfl) (@az _ _ _ _ _ _ _ _ bh (aB aO rfl B.b_len bV (@aa _ _ _ _ _ (pv 2) af rfl)) ae) rfl (by first | exact .inl rfl | exact .inr rfl | assumption))
  (@ag _ _ _ _ _ (eI Bh (av tL (aB aO rfl B.b_len bV (@aa _ _ _ _ _ (pv 2) af rfl)) (pv 3) (aJ _))
   (@ag _ _ _ _ _ (@ax _ _ 3 _ _ _ _ fR.nd rfl (Or.inl rfl) (aB aO rfl B.b_len bV (@aa _ _ _ _ _ (pv 2) af rfl)) rfl (by first | exact .inl rfl | exact .inr rfl | assumption))
   (@ag _ _ _ _ _ (@ax _ _ 4 _ _ _ _ fR.nd rfl (Or.inr rfl) (ay cLTiesIn hr (by decide) rfl (@aa _ _ _ _ _ (pv 0) (@aa _ _ _ _ _ (pv 2) af rfl) rfl)) rfl (by first | exact .inl rfl | exact .inr rfl | assumption))
   (@aj _ _ _ (gi (i:=2) ["place", "ties"] [none,some 4] rfl fR.nd rfl rfl (@cM _ _ _ _ (pv 2)) rfl (λ_ _ _ _ _=>(aH (i:=0) gB rfl (Or.inl rfl))) (λ_ _ _ _ _=>(dS (av nF (gQ hu (pv 1) (pv 0) (λ_ _=>rfl)) ae (aJ _)))) (λ_ _ _ _ _=>(pv 0)))))))
  (@aj _ _ _ (@aF _ _ _ _ (bj aY rfl B.b_tuple cn (@aa _ _ _ _ _ (pv 2) af rfl))))))),?_⟩
 refine ⟨_,rfl,p,_,rfl,.inr (SqT.of ep),λl hl =>?_⟩
 have s1:=ai hl (.lst (Pl.map V.int))
 have el:upd H l (.lst (Pl.map V.int)) l=some (.lst (Pl.map V.int)):=ah
 generalize upd H l (.lst (Pl.map V.int))=H1 at s1 el
 refine ⟨_,rfl,l,_,rfl,.inl (SqL.of el),_,_,rfl,rfl,?_⟩
 rw[z4]
 refine eJ (λσ H'=>∃(k:Addr) (B:List Int) (n:Nat) (c4:Option V),σ=[some (.ref r),some (.ref p),some (.ref k),some (.int (n:Nat)),c4]/\aA H H'/\H' k=some (.lst (B.map V.int))/\(∀v∈B,v∈Pl)/\B.length<=Pl.length/\(B.length<n\/(B.length=n/\∀v∈B,1<tin (ts.map (·.2)) B v))) (λσ _=>match σ[3]? with | some (some (V.int a))=>a.toNat | _=>0) ⟨l,Pl,Pl.length+1,_,by rw[show ((Pl.length+1:Nat):Int)=(Pl.length:Int)+1 by lia];rfl,s1,el,λv h=>h,Ag _,.inl (BK _)⟩ ?_ ?_
 ·rintro σ H2 ⟨k,B,n,c4,rfl,s2,ek,sub,lB,or'⟩
  refine ⟨_,rfl,k,_,rfl,.inl (SqL.of ek),_,rfl,_,_,rfl,rfl,_,rfl,?_⟩
  rw[z4]
  rcases or' with or' | ⟨en,al⟩
  case inr =>
   rw[decide_eq_false (by lia)]
   exact aX ⟨_,rfl,k,_,rfl,.inl ⟨SqL.of ek,λz hz=>q z B _ (s2.trans (ai hz _)) ah sub lB al⟩⟩
  rw[decide_eq_true (by lia)]
  refine a9 ⟨_,rfl,k,_,rfl,.inl (SqL.of ek),?_⟩
  rw[z4]
  refine ⟨_,rfl,_,rfl,dH.mpr ⟨r,k,m,ts,B,rfl,W.same s2,.inl ek,by lia,λd H3 s3 hd D3 =>?_⟩⟩
  have s23:=s2.trans s3
  refine ⟨_,rfl,k,rfl,⟨_,SqL.of (s3 _ _ ek)⟩,cw (xs:=B.map V.int) (λi ys H'=>H'=H3/\ys=((B.take i).filter λv=>decide (1<tin (ts.map (·.2)) B v)).map V.int) ⟨rfl,rfl⟩ (by rw[z4];exact cy (by lia)) (λi ys H' _ h=>by rw[h.1];exact SqL.of (s3 _ _ ek)) ?_ ?_⟩
  ·rintro i x ys H4 hx _ ⟨rfl,rfl⟩ R1 R0 r1 r0
   obtain ⟨v,ev,rfl⟩:=oF hx
   have vm:=Aj ev
   have gv:=D3.get v
   rw[if_pos vm] at gv
   have tk:((B.take (i+1)).filter λv=>decide (1<tin (ts.map (·.2)) B v))=((B.take i).filter λv=>decide (1<tin (ts.map (·.2)) B v))++if 1<tin (ts.map (·.2)) B v then [v] else []:=by
    rw[Bm,ev,CH]
    congr 1
    by_cases c:1<tin (ts.map (·.2)) B v
    ·rw[if_pos c,Cq,BZ (by exact decide_eq_true c)];rfl
    ·rw[if_neg c,Cq,B0 (by exact λz=>c (of_decide_eq_true z))];rfl
   refine ⟨_,rfl,_,rfl,d,_,rfl,gv,_,_,rfl,rfl,_,rfl,?_⟩
   by_cases c:1<tin (ts.map (·.2)) B v
   ·rw[decide_eq_true c]
    refine a9 ⟨_,rfl,r1 _ _ ⟨rfl,?_⟩⟩
    rw[tk,if_pos c,AE];rfl
   ·rw[decide_eq_false c]
    refine aX (r0 _ ⟨rfl,?_⟩)
    rw[tk,if_neg c,AU]
  ·rintro ys H4 _ ⟨rfl,rfl⟩ k2 hk2
   rw[z4,Cs]
   have lf:=Cg (λv=>decide (1<tin (ts.map (·.2)) B v)) B
   refine ⟨⟨k2,B.filter (λv=>decide (1<tin (ts.map (·.2)) B v)),B.length,_,rfl,s23.trans (ai hk2 _),ah,λv hv=>sub v (CC.mp hv).1,by lia,?_⟩,?_⟩
   ·by_cases c:(B.filter λv=>decide (1<tin (ts.map (·.2)) B v)).length<B.length
    ·exact .inl c
    ·have e:=Gr.mpr (List.length_filter_eq_length_iff.mp (by lia:(B.filter λv=>decide (1<tin (ts.map (·.2)) B v)).length=B.length))
     rw[e]
     exact .inr ⟨rfl,λv hv=>of_decide_eq_true (Gr.mp e v hv)⟩
   ·show ((B.length:Nat):Int).toNat<((n:Nat):Int).toNat
    lia
 ·rintro σ H Q Q' h ⟨v,e,p,xs,h1,h2,w,e',i,j,h3,h4,b,h5,y⟩
  exact ⟨v,e,p,xs,h1,h2,w,e',i,j,h3,h4,b,h5,h _ _ y⟩
end
open PySem L2
theorem jk {α:Type}(f:α -> Int):∀(N:List α) (c:Nat),(∀(j:Nat) t,N[j]? = some t->j≠c->f t=0)->(N.map f).sum=((N[c]?).map f).getD 0
 | [],c,_=>rfl
 | t :: N,0,h=>by
  have:(N.map f).sum=((N[N.length]?).map f).getD 0:=jk f N N.length λj u hu _=>h (j+1) u hu (by lia)
  rw[AL,GN,this,Bx (Ag _)]
  show f t+0=f t
  lia
 | t :: N,c+1,h=>by
  have h1:=jk f N c λj u hu n=>h (j+1) u hu (by lia)
  have h0:f t=0:=h 0 t rfl (by lia)
  rw[AL,GN,h1,h0,E9,CQ]
theorem vp {α:Type}(f:α -> Int)(N:List α)(h:∀t∈N,f t=0):(N.map f).sum=0:=by
 rw[jk f N N.length λj t ht _=>h t (Aj ht),Bx (Ag _)];rfl
theorem sU {N:List (List Int)}{v cm:Int}(h2:1<(N.map (ends v)).sum)(hc:cm = -1\/∃(j:Nat) (t:List Int),cm=j/\N[j]? = some t/\ends v t=1):∃(j:Nat) (t:List Int),N[j]? = some t/\(j:Int)≠cm/\ends v t≠0:=by
 apply DW
 intro n
 have al:∀(j:Nat) t,N[j]? = some t->(j:Int)≠cm->ends v t=0:=λj t ht hj=>DW λz=>n ⟨j,t,ht,hj,z⟩
 rcases hc with hc | ⟨c,t,rfl,ht,h1⟩
 ·have:=vp (ends v) N λt ht=>by
   obtain ⟨j,hj⟩:=List.getElem?_of_mem ht
   exact al j t hj (by lia)
  lia
 ·have:=jk (ends v) N c λj u hu hj=>al j u hu (by lia)
  rw[ht] at this
  have:(N.map (ends v)).sum=ends v t:=this
  lia
theorem rn (W:List Int)(v:Int):atI ((W++[v]).map V.int) (-1)=some (.int v):=by
 have e:ixN ((W++[v]).map V.int).length (-1)=some W.length:=by
  rw[z4,Ae]
  unfold ixN
  rw[if_neg (by decide),if_pos (by show -((W.length+1:Nat):Int) <= -1;lia)]
  congr 1
  show (-1+((W.length+1:Nat):Int)).toNat=W.length
  lia
 unfold atI
 rw[e]
 show ((W++[v]).map V.int)[W.length]? = _
 rw[Aw,A0 (Ag _),FY]
 rfl
abbrev rp:Sp:=λvs H Q _=>∃(p r b:Addr) (m:Nat) (ts:List (Addr×List Int)) (B:List Int),vs=[.ref p,.ref r,.ref b]/\Pt 2 H p/\Wb H r m ts/\H b=some (.tup (B.map V.int))/\B≠[]/\B.length<=100/\(∀v∈B,1<tin (ts.map (·.2)) B v)/\∀(z:Addr) (Z:List Int) (H':Hp),Bu 2 p H H'->H' z=some (.tup (Z.map V.int))->Z≠[]->(∀v∈Z,v∈B)->Z.length<=110->Q (.ref z) H'
@[irreducible] def nB:Sp:=rp
theorem gC {vs:List V}{H:Hp}{Q:VK}{E:XK}:nB vs H Q E↔rp vs H Q E:=by
 delta nB
 exact Cp
section
variable  {P:Au}{w:AV}{K:z8}{mg:Str->Option z9}{base:Heap}{f T:Addr}{fd:A3}
theorem bH:aE ["pot", "web", "base", "have", "inner", "walk", "came", "turn", "ways", "place"] ["pot", "web", "base"] (ak fH):=⟨rfl,rfl,rfl,by decide +kernel,rfl,by decide +kernel,by decide +kernel⟩
theorem fV:(["tie", "have"]:List Str).Nodup:=by decide +kernel
theorem cI:(["at", "came", "walk", "inner"]:List Str).Nodup:=by decide +kernel
theorem qe (F:Fun K "_law_any_ring" "_law_any_ring" fH f fd)(B:Blt mg)(cLTiesIn:Cal P w K mg base 1 "_law_ties_in" ["web", "places"] l6)(cLTake:Cal P w K mg base 1 "_law_take" ["pot", "many"] dr):a7 P w K mg base CX0 2 f fd ["pot", "web", "base"] nB:=by
 refine F.ok bH (λvs H Q E h =>?_) (λcdv A outer s H vs Q E hr h =>?_)
 ·obtain ⟨_,_,_,_,_,_,rfl,_⟩:=gC.mp h
  rfl
 obtain ⟨p,r,b,m,ts,Bs,rfl,hp,W,eb,Bn,lB,B2,q⟩:=gC.mp h
 have hu:(iU CX0 P w K mg base ["pot", "web", "base", "have", "inner", "walk", "came", "turn", "ways", "place"] "_law_any_ring" (ak fH) f cdv A outer s H E).nox.A.units+1<cLine:=nJ hr
 refine ⟨_,(@ag _ _ _ _ _ (@ax _ _ 3 _ _ _ _ bH.nd rfl (Or.inr rfl) (ay cLTiesIn hr (by decide) rfl (@aa _ _ _ _ _ (pv 1) (@aa _ _ _ _ _ (pv 2) af rfl) rfl)) rfl (by first | exact .inl rfl | exact .inr rfl | assumption))
  (@ag _ _ _ _ _ (@ax _ _ 4 _ _ _ _ bH.nd rfl (Or.inr rfl) (cj ["tie", "have"] [none,some 3] rfl (@gf _ _ _ _ (@aq _ _ _ _ _ _ _ au (pv 1) ae (λ_ _=>rfl))) rfl (λ_ _ _ _ _=>(aH (i:=0) fV rfl (Or.inl rfl))) (λ_ _ _ _ _=>(dS (PW.pt (cq (dM (ir hu (@aq _ _ _ _ _ _ _ (da (K:=K)) (pv 0) ae (λ_ _=>rfl)) (pv 1))) (bN (dM (ir hu (@aq _ _ _ _ _ _ _ (da (K:=K)) (pv 0) ae (λ_ _=>rfl)) (pv 1)))))))) (λ_ _ _ _ _=>(pv 0))) rfl (by first | exact .inl rfl | exact .inr rfl | assumption))
  (@ag _ _ _ _ _ (@ax _ _ 5 _ _ _ _ bH.nd rfl (Or.inr rfl) (@cJ _ _ _ _ (@aa _ _ _ _ _ (@aq _ _ _ _ _ _ _ au (pv 2) (ay cLTake hr (by decide) rfl (@aa _ _ _ _ _ (pv 0) (@aa _ _ _ _ _ (aB aO rfl B.b_len bV (@aa _ _ _ _ _ (pv 2) af rfl)) af rfl) rfl)) (λ_ _=>rfl)) af rfl)) rfl (by first | exact .inl rfl | exact .inr rfl | assumption))
  (@ag _ _ _ _ _ (@ax _ _ 6 _ _ _ _ bH.nd rfl (Or.inr rfl) (tJ oX ae) rfl (by first | exact .inl rfl | exact .inr rfl | assumption))
  (@ag _ _ _ _ _ (@cf _ _ _ _ _ _ _ _ Bh rfl (bB rfl B.b_range (@aa _ _ _ _ _ (@az _ _ _ _ _ _ _ _ bh (aB aO rfl B.b_len bV (@aa _ _ _ _ _ (pv 2) af rfl)) ae) af rfl)) (aH (i:=7) bH.nd rfl (Or.inl rfl))
   (@ag _ _ _ _ _ (gi (i:=8) ["at", "came", "walk", "inner"] [none,some 6,some 5,some 4] rfl bH.nd rfl rfl (bB rfl B.b_range (@aa _ _ _ _ _ (aB aO rfl B.b_len bV (@aa _ _ _ _ _ (pv 4) af rfl)) af rfl)) rfl (λ_ _ _ _ _=>(aH (i:=0) cI rfl (Or.inl rfl))) (λ_ _ _ _ _=>(dS (PW.pt (cq (av jw (pv 0) (pv 1) (aJ _)) (bN (av (jI (K:=K)) (@aq _ _ _ _ _ _ _ (nM (K:=K)) (pv 2) (tJ oX ae) (λ_ _=>rfl)) (@aq _ _ _ _ _ _ _ (nM (K:=K)) (pv 3) (pv 0) (λ_ _=>rfl)) rfl)))))) (λ_ _ _ _ _=>(pv 0)))
   (@ag _ _ _ _ _ (@ax _ _ 6 _ _ _ _ bH.nd rfl (Or.inr rfl) (@aq _ _ _ _ _ _ _ bq (pv 8) (ay cLTake hr (by decide) rfl (@aa _ _ _ _ _ (pv 0) (@aa _ _ _ _ _ (aB aO rfl B.b_len bV (@aa _ _ _ _ _ (pv 8) af rfl)) af rfl) rfl)) (λ_ _=>rfl)) rfl (by first | exact .inl rfl | exact .inr rfl | assumption))
   (@ag _ _ _ _ _ (@ax _ _ 9 _ _ _ _ bH.nd rfl (Or.inl rfl) (@az _ _ _ _ _ _ _ _ gh (@az _ _ _ _ _ _ _ _ bh (@aq _ _ _ _ _ _ _ au (@aq _ _ _ _ _ _ _ bq (pv 4) (pv 6) (λ_ _=>rfl)) ae (λ_ _=>rfl)) (@aq _ _ _ _ _ _ _ au (@aq _ _ _ _ _ _ _ bq (pv 4) (pv 6) (λ_ _=>rfl)) ae (λ_ _=>rfl))) (@aq _ _ _ _ _ _ _ bq (pv 5) (tJ oX ae) (λ_ _=>rfl))) rfl (by first | exact .inl rfl | exact .inr rfl | assumption))
   (@ag _ _ _ _ _ (@aZ _ _ _ _ _ _ _ _ (av fA (pv 9) (pv 5) rfl) (@aj _ _ _ (@aF _ _ _ _ (bj aY rfl B.b_tuple cn (@aa _ _ _ _ _ (cV ml (pv 5) (dP (eD Be Fz PySem.F.type_list_index sr (pv 5) (@aa _ _ _ _ _ (pv 9) af rfl))) dO) af rfl)))) aM)
   (@aj _ _ _ (cc (eD Be Bp Bq bL (pv 5) (@aa _ _ _ _ _ (pv 9) af rfl)))))))) (λ_=>rfl))
  (@aj _ _ _ (@aF _ _ _ _ (@bC _ _ _ _ _ af)))))))),?_⟩
 obtain ⟨t,e1,e2⟩:=W.at'
 have tl:=W.len
 have lum:(ts.map λu=>V.ref u.1).length=ts.length:=z4 _
 refine ⟨_,rfl,_,rfl,dH.mpr ⟨r,b,m,ts,Bs,rfl,W,.inr eb,by lia,λd H1 s1 hd D1 =>?_⟩⟩
 have W1:=W.same s1
 refine ⟨_,rfl,r,_,1,_,rfl,rfl,SqT.of (s1 _ _ e1),rfl,t,rfl,⟨_,SqT.of (s1 _ _ e2)⟩,fC (xs:=ts.map λu =>.ref u.1) (λi ys H'=>H'=H1/\ys=((ts.take i).filter λu=>inn Bs u.2).map λu=>V.ref u.1) ⟨rfl,rfl⟩ (by rw[lum];exact cy (by lia)) (λi ys H' _ h=>by rw[h.1];exact SqT.of (s1 _ _ e2)) ?_ ?_⟩
 ·rintro i x ys H2 hx _ ⟨rfl,rfl⟩ R1 R0 r1 r0
  obtain ⟨u,eu,rfl⟩:=j8 hx
  have um:=Aj eu
  obtain ⟨x,y,ab,_⟩:=W.pr u um
  have eu1:=W1.tup u um
  have tk:((ts.take (i+1)).filter λu=>inn Bs u.2)=((ts.take i).filter λu=>inn Bs u.2)++if inn Bs u.2=true then [u] else []:=by
   rw[Bm,eu,CH]
   congr 1
   by_cases c:inn Bs u.2=true
   ·rw[if_pos c,Cq,BZ (by exact c)];rfl
   ·rw[if_neg c,Cq,B0 (by exact c)];rfl
  have iv:inn Bs u.2=(decide (x∈Bs) && decide (y∈Bs)):=by rw[ab];rfl
  rw[ab] at eu1
  refine ⟨_,rfl,u.1,_,0,_,rfl,rfl,SqT.of eu1,rfl,_,rfl,d,_,rfl,D1.get x,_,rfl,?_⟩
  by_cases ca:x∈Bs
  case neg =>
   rw[if_neg ca]
   refine aX (aX (r0 _ ⟨rfl,?_⟩))
   rw[tk,if_neg (by rw[iv,decide_eq_false ca,CT];exact Ak),AU]
  rw[if_pos ca]
  refine a9 ⟨_,rfl,u.1,_,1,_,rfl,rfl,SqT.of eu1,rfl,_,rfl,d,_,rfl,D1.get y,_,rfl,?_⟩
  by_cases cb:y∈Bs
  case neg =>
   rw[if_neg cb]
   refine aX (r0 _ ⟨rfl,?_⟩)
   rw[tk,if_neg (by rw[iv,decide_eq_false cb,CU];exact Ak),AU]
  rw[if_pos cb]
  refine a9 ⟨_,rfl,r1 _ _ ⟨rfl,?_⟩⟩
  rw[tk,if_pos (by rw[iv,decide_eq_true ca,decide_eq_true cb];rfl),AE];rfl
 rintro ys H2 _ ⟨rfl,rfl⟩ il hil
 rw[lum,Cs]
 have NN:(ts.filter λu=>inn Bs u.2).map (·.2)=(ts.map (·.2)).filter (inn Bs):=by rw[EY];rfl
 have lus:(ts.filter λu=>inn Bs u.2).length<=200:=A4 (Cg _ _) tl
 have tus0:Tus H2 (ts.filter λu=>inn Bs u.2):=λu hu=>W1.tup u (CC.mp hu).1
 have pus:∀u∈ts.filter (λu=>inn Bs u.2),∃x y:Int,u.2=[x,y]/\x∈Bs/\y∈Bs:=λu hu=>by
  obtain ⟨um,iu⟩:=CC.mp hu
  obtain ⟨x,y,e,_⟩:=W.pr u um
  have iu:inn Bs u.2=true:=iu
  rw[e] at iu
  unfold inn at iu
  rw[BD] at iu
  exact ⟨x,y,e,of_decide_eq_true iu.1,of_decide_eq_true iu.2⟩
 have deg:∀v∈Bs,1<(((ts.filter λu=>inn Bs u.2).map (·.2)).map (ends v)).sum:=λv hv=>by rw[NN];exact B2 v hv
 generalize ts.filter (λu=>inn Bs u.2)=us at lus tus0 pus deg
 have g3:=ai hil (.lst (us.map λu=>V.ref u.1))
 have ei3:upd H2 il (.lst (us.map λu=>V.ref u.1)) il=some (.lst (us.map λu=>V.ref u.1)):=ah
 have b3:=(Bu.refl hp).same (s1.trans g3)
 have tu3:=tus0.same g3
 generalize upd H2 il (.lst (us.map λu=>V.ref u.1))=H3 at g3 ei3 b3 tu3
 have nil:il≠p:=λz=>by
  obtain ⟨xs,_,e⟩:=hp
  rw[z,s1 _ _ e] at hil;cases hil
 have Bl:0<Bs.length:=Cy.mpr Bn
 refine ⟨_,rfl,_,rfl,_,rfl,b,_,rfl,.inr (SqT.of (b3.tup hp eb)),aK.mpr ⟨p,(Bs.length:Int),by rw[z4];rfl,b3.pot,by lia,by lia,λd1 H4 d10 d11 b4 =>?_⟩⟩
 obtain ⟨v0,vm0,hat0⟩:=uM (xs:=Bs) d10 d11
 have b34:=b3.trans b4
 refine ⟨b,_,d1,_,rfl,rfl,SqT.of (b34.tup hp eb),hat0,(by show 1<=Ao;decide),λwa hwa =>?_⟩
 have nwp:=nc b34.pot hwa
 have hwa0:=vg b34 hwa nwp
 have ei4:=b4.st _ _ nil ei3
 have niw:il≠wa:=λz=>by rw[<- z,ei4] at hwa;cases hwa
 have g5:=ai hwa (.lst [.int v0])
 have b5:=b34.same g5
 have ei5:=g5 _ _ ei4
 have tu5:=(tu3.bu b4 b3.pot).same g5
 have ew5:upd H4 wa (.lst [.int v0]) wa=some (.lst (([]++[v0]).map V.int)):=ah
 generalize upd H4 wa (.lst [.int v0])=H5 at g5 b5 ei5 tu5 ew5
 let W0:Nat->St->Hp->Prop:=λi σ H'=>∃(W':List Int) (v cm:Int),(∃c7 c8 c9,σ=[some (.ref p),some (.ref r),some (.ref b),some (.ref d),some (.ref il),some (.ref wa),some (.int cm),c7,c8,c9])/\Bu 2 p H H'/\H' il=some (.lst (us.map λu=>V.ref u.1))/\Tus H' us/\H' wa=some (.lst ((W'++[v]).map V.int))/\W'.length=i/\(W'++[v]).Nodup/\(∀u∈W'++[v],u∈Bs)/\(cm = -1\/∃(j:Nat) (t:List Int),cm=j/\(us.map (·.2))[j]? = some t/\ends v t=1)
 refine ⟨_,rfl,_,rfl,b,_,rfl,.inr (SqT.of (b5.tup hp eb)),_,_,rfl,rfl,((Bs.length:Int)+1),(by rw[z4]),by lia,by lia,cu W0 ⟨[],v0, -1,⟨_,_,_,rfl⟩,b5,ei5,tu5,ew5,rfl,by simp,λu hu=>by rw[Ah.mp hu];exact vm0,.inl rfl⟩ ?_ ?_⟩
 case refine_2 =>
  rintro σ H6 ⟨W',v,cm,_,_,_,_,_,lW,nd,sub,_⟩
  have:=CF nd (l₂:=Bs) λu hu=>sub u hu
  rw[Ae] at this
  have:W'.length+1<=Bs.length:=this
  lia
 rintro i σ H6 hi ⟨W',v,cm,⟨c7,c8,c9,rfl⟩,b6,ei6,tu6,ew6,lW,nd,sub,hcm⟩
 have lWB:W'.length+1<=Bs.length:=by
  have:=CF nd (l₂:=Bs) λu hu=>sub u hu
  rw[Ae] at this
  exact this
 have vB:v∈Bs:=sub v (AQ _ AN)
 have liu:(us.map λu=>V.ref u.1).length=us.length:=z4 _
 let W1:Nat->List V->Hp->Prop:=λk ys H'=>H'=H6/\ys=(((Bv k).filter λj:Nat=>decide ((j:Int)≠cm/\v∈(us.getD j (0,[])).2)).map λj:Nat=>(j:Int)).map V.int
 refine ⟨_,rfl,il,_,rfl,.inl (SqL.of ei6),(us.length:Int),by rw[liu],by lia,by lia,cF W1 ⟨rfl,rfl⟩ (cy (by lia)) ?_ ?_⟩
 ·rintro k ys H7 hk _ ⟨rfl,rfl⟩ R1 R0 r1 r0
  have hk':k<us.length:=by lia
  rw[E9 (k:Int)]
  have eu:us[k]? = some us[k]:=Ab hk'
  have um:us[k]∈us:=DG hk'
  have gd:us.getD k (0,[])=us[k]:=by rw[Aq,eu];rfl
  have tk:(((Bv (k+1)).filter λj:Nat=>decide ((j:Int)≠cm/\v∈(us.getD j (0,[])).2)).map λj:Nat=>(j:Int))=(((Bv k).filter λj:Nat=>decide ((j:Int)≠cm/\v∈(us.getD j (0,[])).2)).map λj:Nat=>(j:Int))++if (k:Int)≠cm/\v∈us[k].2 then [(k:Int)] else []:=by
   rw[List.range_succ,CH,AE]
   congr 1
   by_cases c:(k:Int)≠cm/\v∈us[k].2
   ·rw[if_pos c,BZ (by rw[gd];exact decide_eq_true c)];rfl
   ·rw[if_neg c,B0 (by rw[gd];exact λz=>c (of_decide_eq_true z))];rfl
  have no:¬ ((k:Int)≠cm/\v∈us[k].2)->R0 H7:=λc=>r0 _ ⟨rfl,by rw[tk,if_neg c,AU]⟩
  refine ⟨_,rfl,_,rfl,rfl,_,rfl,?_⟩
  by_cases c:(k:Int)=cm
  ·rw[decide_eq_true (by rw[c])]
   exact aX (aX (no λz=>z.1 c))
  rw[decide_eq_false (λz=>c (V.int.inj z))]
  refine a9 ⟨_,rfl,1,rfl,wa,_,_,_,rfl,rfl,SqL.of ew6,rn W' v,_,rfl,_,rfl,il,_,(k:Int),.ref us[k].1,rfl,rfl,SqL.of ei6,cN (by rw[Aw,eu];rfl),us[k].1,_,rfl,.inr (SqT.of (tu6 _ um)),rfl,bo _,_,rfl,?_⟩
  show if inV (.int v) (us[k].2.map V.int)=true then _ else _
  rw[mL]
  by_cases cv:v∈us[k].2
  ·rw[decide_eq_true cv]
   exact a9 ⟨_,rfl,r1 _ _ ⟨rfl,by rw[tk,if_pos ⟨c,cv⟩,AE];rfl⟩⟩
  ·rw[decide_eq_false cv]
   exact aX (no λz=>cv z.2)
 rintro ys H7 _ ⟨rfl,rfl⟩ yl hyl
 rw[show ((us.length:Nat):Int).toNat=us.length by lia]
 have ex:∃j:Nat,j∈(Bv us.length).filter λj:Nat=>decide ((j:Int)≠cm/\v∈(us.getD j (0,[])).2):=by
  obtain ⟨j,t,ht,hj,et⟩:=sU (deg v vB) hcm
  rw[Aw] at ht
  obtain ⟨u,eu,rfl⟩:=FN.mp ht
  refine ⟨j,CC.mpr ⟨BA.mpr (Af.mp eu).1,decide_eq_true ⟨hj,?_⟩⟩⟩
  rw[Aq,eu]
  show v∈u.2
  obtain ⟨x,y,e,_⟩:=pus u (Aj eu)
  rw[e] at et ⊢
  apply DW
  intro n
  apply et
  show (if x=v then (1:Int) else 0)+(if y=v then (1:Int) else 0)=0
  rw[if_neg (λz=>n (by rw[z];simp)),if_neg (λz=>n (by rw[z];simp))]
  rfl
 have al:∀j:Nat,j∈(Bv us.length).filter (λj:Nat=>decide ((j:Int)≠cm/\v∈(us.getD j (0,[])).2))->j<us.length/\v∈(us.getD j (0,[])).2:=λj hj=>by
  obtain ⟨a,c⟩:=CC.mp hj
  exact ⟨BA.mp a,(of_decide_eq_true c).2⟩
 have lY:((Bv us.length).filter λj:Nat=>decide ((j:Int)≠cm/\v∈(us.getD j (0,[])).2)).length<=200:=by
  have:=Cg (λj:Nat=>decide ((j:Int)≠cm/\v∈(us.getD j (0,[])).2)) (Bv us.length)
  rw[CW] at this
  lia
 generalize (Bv us.length).filter (λj:Nat=>decide ((j:Int)≠cm/\v∈(us.getD j (0,[])).2))=Y at ex al lY
 have Yl:0<Y.length:=by
  obtain ⟨j,hj⟩:=ex
  exact List.length_pos_of_mem hj
 have g8:=ai hyl (.lst ((Y.map λj:Nat=>(j:Int)).map V.int))
 have ey8:upd H7 yl (.lst ((Y.map λj:Nat=>(j:Int)).map V.int)) yl=some (.lst ((Y.map λj:Nat=>(j:Int)).map V.int)):=ah
 have b8:=b6.same g8
 have nyp:=nc b6.pot hyl
 generalize upd H7 yl (.lst ((Y.map λj:Nat=>(j:Int)).map V.int))=H8 at g8 ey8 b8
 refine ⟨_,rfl,_,rfl,_,rfl,yl,_,rfl,.inl (SqL.of ey8),aK.mpr ⟨p,(Y.length:Int),by rw[z4,z4];rfl,b8.pot,by lia,by lia,λd2 H9 d20 d21 b9 =>?_⟩⟩
 obtain ⟨y,ym,haty⟩:=uM (xs:=Y.map λj:Nat=>(j:Int)) d20 (by rw[z4];exact d21)
 obtain ⟨j,jm,rfl⟩:=Bc.mp ym
 obtain ⟨jl,jv⟩:=al j jm
 have b89:=b8.trans b9
 refine ⟨yl,_,d2,_,rfl,rfl,SqL.of (b9.st _ _ nyp ey8),haty,?_⟩
 have eu:us[j]? = some us[j]:=Ab jl
 have um:us[j]∈us:=DG jl
 have gd:us.getD j (0,[])=us[j]:=by rw[Aq,eu];rfl
 rw[gd] at jv
 have ei9:=b9.st _ _ nil (g8 _ _ ei6)
 have ew9:=b9.st _ _ nwp (g8 _ _ ew6)
 have tu9:=(tu6.same g8).bu b9 b8.pot
 obtain ⟨x,z,e,xB,zB⟩:=pus _ um
 have eu9:=tu9 _ um
 have eN:(us.map (·.2))[j]? = some [x,z]:=by rw[Aw,eu];exact congrArg some e
 rw[e] at eu9 jv
 have hatj:atI (us.map λu=>V.ref u.1) (j:Int)=some (.ref us[j].1):=cN (by rw[Aw,eu];rfl)
 generalize us[j].1=ja at eu9 hatj
 refine ⟨_,rfl,_,rfl,il,_,(j:Int),_,rfl,rfl,SqL.of ei9,hatj,ja,_,0,_,rfl,rfl,SqT.of eu9,rfl,_,rfl,_,rfl,il,_,(j:Int),_,rfl,rfl,SqL.of ei9,hatj,ja,_,1,_,rfl,rfl,SqT.of eu9,rfl,_,_,rfl,rfl,_,rfl,1,rfl,wa,_,_,_,rfl,rfl,SqL.of ew9,rn W' v,_,_,rfl,rfl,?_⟩
 have jv':v=x\/v=z:=by simpa using jv
 have pB:x+z-v∈Bs:=by
  rcases jv' with h | h
  ·rw[h,show x+z-x=z by lia];exact zB
  ·rw[h,show x+z-z=x by lia];exact xB
 have lwm:((W'++[v]).map V.int).length=W'.length+1:=by rw[z4,Ae];rfl
 refine ⟨_,rfl,_,rfl,wa,_,rfl,.inl (SqL.of ew9),rfl,bo (W'++[v]),_,rfl,?_⟩
 show if inV (.int (x+z-v)) ((W'++[v]).map V.int)=true then _ else _
 rw[mL]
 by_cases inW:x+z-v∈W'++[v]
 ·rw[decide_eq_true inW]
  refine a9 ⟨_,rfl,_,rfl,.inl ⟨rfl,_,SqL.of ew9⟩,_,rfl,wa,W'++[v],_,rfl,rfl,ew9,inW,by rw[Ae];show _+1<=_;lia,_,rfl,wa,_,rfl,SqL.of ew9,λc1 hc1 =>?_⟩
  have ix:=Dx.mpr inW
  rw[pX _ (by rw[z4];exact DC ix), <- ES]
  refine ⟨c1,_,rfl,.inl ⟨SqL.of ah,λc2 hc2=>q c2 _ _ ((b89.same (ai hc1 _)).same (ai hc2 _)) ah (λzz =>?_) (λu hu=>sub u (B5 hu)) ?_⟩⟩
  ·have:=congrArg List.length zz
   rw[Bk] at this
   have:(W'++[v]).length-(W'++[v]).idxOf (x+z-v)=0:=this
   lia
  ·rw[Bk,Ae]
   show W'.length+1-_<=110
   lia
 ·rw[decide_eq_false inW]
  have nv:x+z-v≠v:=λz'=>inW (by rw[z'];simp)
  refine aX ⟨_,rfl,.inl ⟨rfl,_,SqL.of ew9⟩,_,rfl,wa,_,_,rfl,rfl,ew9,cK (by rw[lwm];lia),W'++[v],x+z-v,(j:Int),⟨_,_,_,rfl⟩,b89.bQ hwa0 nwp _,by rw[aD niw];exact ei9,λu hu=>by rw[aD (iK (tu9 u hu) ew9 nofun)];exact tu9 u hu,by rw[ah,AE (l₁:=W'++[v])];rfl,by rw[Ae,lW];rfl,?_,λu hu =>?_,.inr ⟨j,_,rfl,eN,?_⟩⟩
  ·refine EC.mpr ⟨nd,by simp,λa ha b hb e =>?_⟩
   rw[Ah.mp hb] at e
   exact inW (e ▸ ha)
  ·rcases As.mp hu with h | h
   ·exact sub u h
   ·rw[Ah.mp h];exact pB
  ·show (if x=x+z-v then (1:Int) else 0)+(if z=x+z-v then (1:Int) else 0)=1
   rcases jv' with h | h
   ·rw[if_neg (by lia),if_pos (by lia)];rfl
   ·rw[if_pos (by lia),if_neg (by lia)];rfl
end
open PySem L2
theorem rq {ns:List Int}{k:Nat}{v:Int}(h:v∈rot ns k):v∈ns:=(As.mp h).elim B5 B6
theorem rz (ns:List Int)(k:Nat):(rot ns k).length=ns.length:=by
 unfold rot
 rw[Ae,Bk,Bf];lia
theorem vq {ns:List Int}{v:Int}(h:v∈turn ns):v∈ns:=(As.mp h).elim B6 λz=>B5 (List.mem_reverse.mp z)
theorem vt (ns:List Int):(turn ns).length=ns.length:=by
 unfold turn
 rw[Ae,Bf,C7,Bk];lia
theorem g7 {ns:List Int}{M v:Int}(h:v∈frm ns M):v∈ns:=by
 unfold frm gu at h
 split at h
 ·exact rq (vq h)
 ·exact rq h
theorem dh (ns:List Int)(M:Int):(frm ns M).length=ns.length:=by
 unfold frm gu
 split
 ·rw[vt,rz]
 ·rw[rz]
theorem vv {ns:List Int}{M:Int}(h:ns≠[]):frm ns M≠[]:=λz=>h (List.eq_nil_of_length_eq_zero (by rw[<- dh ns M,z];rfl))
@[irreducible] def jq (K:z8):Sp:=λvs H Q _=>∃(p r:Addr) (m:Nat) (ts:List (Addr×List Int)),vs=[.ref p,.ref r]/\Pt 2 H p/\Wb H r m ts/\m<=40/\(∀H',Bu 2 p H H'->Q .non H')/\∀(la:Addr) (tie:Bool) (P:List Int) (s0 s1:Int) (H':Hp),Bu 2 p H H'->Lyr K H' la tie m P s0 s1->Q (.ref la) H'
theorem fw {K:z8}{vs:List V}{H:Hp}{Q:VK}{E:XK}:jq K vs H Q E↔∃(p r:Addr) (m:Nat) (ts:List (Addr×List Int)),vs=[.ref p,.ref r]/\Pt 2 H p/\Wb H r m ts/\m<=40/\(∀H',Bu 2 p H H'->Q .non H')/\∀(la:Addr) (tie:Bool) (P:List Int) (s0 s1:Int) (H':Hp),Bu 2 p H H'->Lyr K H' la tie m P s0 s1->Q (.ref la) H':=by
 delta jq
 exact Cp
section
variable  {P:Au}{w:AV}{K:z8}{mg:Str->Option z9}{base:Heap}{f T:Addr}{fd:A3}
theorem dI:aE ["pot", "web", "some", "share", "base", "way", "ring"] ["pot", "web"] (ak mR):=⟨rfl,rfl,rfl,by decide +kernel,rfl,by decide +kernel,by decide +kernel⟩
theorem fW:(["place", "some"]:List Str).Nodup:=by decide +kernel
theorem vw (F:Fun K "_law_layer" "_law_layer" mR f fd)(B:Blt mg)(cLSomePlaces:Cal P w K mg base 2 "_law_some_places" ["pot", "many"] nj)(cLShare:Cal P w K mg base 3 "_law_share" ["pot"] (w9 K))(cLBase:Cal P w K mg base 2 "_law_base" ["web", "places"] nA)(cLTake:Cal P w K mg base 1 "_law_take" ["pot", "many"] dr)(cLeastRing:Cal P w K mg base 5 "least_ring" ["web"] jh)(cCutWeb:Cal P w K mg base 1 "cut_web" ["web", "places"] qT)(cRingForm:Cal P w K mg base 1 "ring_form" ["ring"] j3)(cLAnyRing:Cal P w K mg base 2 "_law_any_ring" ["pot", "web", "base"] nB):a7 P w K mg base CX0 6 f fd ["pot", "web"] (jq K):=by
 refine F.ok dI (λvs H Q E h =>?_) (λcdv A outer s H vs Q E hr h =>?_)
 ·obtain ⟨_,_,_,_,rfl,_⟩:=fw.mp h
  rfl
 obtain ⟨p,r,m,ts,rfl,hp,W,m4,q0,q1⟩:=fw.mp h
 refine ⟨_,(@ag _ _ _ _ _ (@ax _ _ 2 _ _ _ _ dI.nd rfl (Or.inr rfl) (ay cLSomePlaces hr (by decide) rfl (@aa _ _ _ _ _ (pv 0) (@aa _ _ _ _ _ (@aq _ _ _ _ _ _ _ au (pv 1) ae (λ_ _=>rfl)) af rfl) rfl)) rfl (by first | exact .inl rfl | exact .inr rfl | assumption))
  (@ag _ _ _ _ _ (@ax _ _ 3 _ _ _ _ dI.nd rfl (Or.inl rfl) (ay cLShare hr (by decide) rfl (@aa _ _ _ _ _ (pv 0) af rfl)) rfl (by first | exact .inl rfl | exact .inr rfl | assumption))
  (@ag _ _ _ _ _ (@ax _ _ 4 _ _ _ _ dI.nd rfl (Or.inl rfl) (ay cLBase hr (by decide) rfl (@aa _ _ _ _ _ (pv 1) (@aa _ _ _ _ _ (pv 2) af rfl) rfl)) rfl (by first | exact .inl rfl | exact .inr rfl | assumption))
  (@ag _ _ _ _ _ (@ax _ _ 5 _ _ _ _ dI.nd rfl (Or.inl rfl) (ay cLTake hr (by decide) rfl (@aa _ _ _ _ _ (pv 0) (@aa _ _ _ _ _ ae af rfl) rfl)) rfl (by first | exact .inl rfl | exact .inr rfl | assumption))
  (@ag _ _ _ _ _ (@aZ _ _ _ _ _ _ _ _ (PW.pt (iL (av cp (pv 5) ae (aJ _)) (hV (av (wG hr) (pv 4) (@bC _ _ _ _ _ af) (aJ _))))) (@ag _ _ _ _ _ (@ax _ _ 6 _ _ _ _ dI.nd rfl (Or.inl rfl) (ay cLeastRing hr (by decide) rfl (@aa _ _ _ _ _ (ay cCutWeb hr (by decide) rfl (@aa _ _ _ _ _ (pv 1) (@aa _ _ _ _ _ (bj aY rfl B.b_tuple cn (@aa _ _ _ _ _ (cj ["place", "some"] [none,some 2] rfl (bB rfl B.b_range (@aa _ _ _ _ _ (@aq _ _ _ _ _ _ _ au (pv 1) ae (λ_ _=>rfl)) af rfl)) rfl (λ_ _ _ _ _=>(aH (i:=0) fW rfl (Or.inl rfl))) (λ_ _ _ _ _=>(dS (av (ig (K:=K)) (pv 0) (pv 1) rfl))) (λ_ _ _ _ _=>(pv 0))) af rfl)) af rfl) rfl)) af rfl)) rfl (by first | exact .inl rfl | exact .inr rfl | assumption))
   (@ag _ _ _ _ _ (@aZ _ _ _ _ _ _ _ _ (av tM (pv 6) dJ (aJ _)) (@aj _ _ _ (@aF _ _ _ _ dJ)) aM)
   (@aj _ _ _ (@aF _ _ _ _ (@bC _ _ _ _ _ (@aa _ _ _ _ _ eE (@aa _ _ _ _ _ (ay cRingForm hr (by decide) rfl (@aa _ _ _ _ _ (pv 6) af rfl)) (@aa _ _ _ _ _ (pv 3) af rfl) rfl) rfl)))))) aM)
  (@ag _ _ _ _ _ (@aZ _ _ _ _ _ _ _ _ (av cp (pv 5) ae (aJ _)) (@aj _ _ _ (@aF _ _ _ _ (@bC _ _ _ _ _ (@aa _ _ _ _ _ eE (@aa _ _ _ _ _ (ay cRingForm hr (by decide) rfl (@aa _ _ _ _ _ (ay cLAnyRing hr (by decide) rfl (@aa _ _ _ _ _ (pv 0) (@aa _ _ _ _ _ (pv 1) (@aa _ _ _ _ _ (pv 4) af rfl) rfl) rfl)) af rfl)) (@aa _ _ _ _ _ (pv 3) af rfl) rfl) rfl)))) aM)
  (@aj _ _ _ (@aF _ _ _ _ (@bC _ _ _ _ _ (@aa _ _ _ _ _ eE (@aa _ _ _ _ _ (pv 4) (@aa _ _ _ _ _ (pv 3) af rfl) rfl) rfl)))))))))),?_⟩
 obtain ⟨t,e1,e2⟩:=W.at'
 refine ⟨_,rfl,_,rfl,r,_,0,_,rfl,rfl,SqT.of e1,rfl,gz.mpr ⟨p,m,rfl,hp,m4,λso So H1 b1 eo1 ro lo =>?_⟩⟩
 refine ⟨_,rfl,j9.mpr ⟨p,rfl,b1.pot,λsh a c H2 b2 t2 h0 sa sb =>?_⟩⟩
 have b12:=b1.trans b2
 have eo2:=b2.tup b1.pot eo1
 refine ⟨_,rfl,_,rfl,gA.mpr ⟨r,so,m,ts,So,rfl,W.bu b12 hp,eo2,by lia,λbs Bs H3 s3 ebs subs lbs degs =>?_⟩⟩
 have b3:=b12.same s3
 have t3:=t2.same s3
 refine ⟨_,rfl,aK.mpr ⟨p,3,rfl,b3.pot,by decide,by decide,λwy H4 w0 w1 b4 =>?_⟩⟩
 have b34:=b3.trans b4
 have eo4:=b4.tup b3.pot (s3 _ _ eo2)
 have ebs4:=b4.tup b3.pot ebs
 have t4:=t3.bu b4 b3.pot
 refine ⟨_,rfl,rfl,_,rfl,dQ (λz=>a9 ?_) λz =>?_⟩
 ·refine ⟨_,rfl,_,rfl,r,_,0,_,rfl,rfl,SqT.of (b34.tup hp e1),rfl,(m:Int),rfl,by lia,by lia,cF (λi ys H'=>H'=H4/\∃ws:List Int,ys=ws.map V.int/\ws.length<=i) ⟨rfl,[],rfl,Ag _⟩ (cy (by lia)) ?_ ?_⟩
  ·rintro i ys H8 hi _ ⟨rfl,ws,rfl,lw⟩ R1 R0 r1 r0
   refine ⟨_,rfl,_,rfl,so,_,rfl,.inr (SqT.of eo4),rfl,bo So,_,rfl,dQ (λz=>⟨_,rfl,r1 _ _ ⟨rfl,ws++[0+(i:Int)],by rw[AE];rfl,by rw[Ae];show _+1<=_;lia⟩⟩) λz=>r0 _ ⟨rfl,ws,rfl,by lia⟩⟩
  rintro ys H8 _ ⟨rfl,ws,rfl,lw⟩ l hl
  have g8:=ai hl (.lst (ws.map V.int))
  refine ⟨l,_,rfl,.inl ⟨SqL.of ah,λtp htp =>?_⟩⟩
  have g9:=g8.trans (ai htp (.tup (ws.map V.int)))
  refine fK.mpr ⟨r,tp,m,ts,ws,rfl,(W.bu b34 hp).same g9,.inr ah,λz us' H10 s10 W10 _ =>?_⟩
  have b10:=b34.same (g9.trans s10)
  have T10:=(t4.same g9).same s10
  refine df.mpr ⟨z,m,us',rfl,W10,by lia,λH11 s11 _ =>?_,λz2 H11 Z M s11 ez hM mn hAl _ =>?_⟩
  ·exact ⟨_,rfl,rfl,_,rfl,a9 (q0 _ (b10.same s11))⟩
  obtain ⟨a',c',hab,hA⟩:=hAl
  have RG:=Al.ring (qR W10) hab hA
  have lZ:=fg RG.nd RG.rng
  refine ⟨_,rfl,rfl,_,rfl,aX ⟨_,rfl,cx.mpr ⟨z2,frm Z M,rfl,ez,vv RG.ne,by rw[dh];lia,λz3 H12 M' s12 _ _ e12 =>?_⟩⟩⟩
  refine ⟨_,rfl,(by show 3<=Ao;decide),λla hla =>?_⟩
  have g13:=ai hla (.tup [.str "ring",.ref z3,.ref sh])
  exact q1 la false (frm (frm Z M) M') _ _ _ (b10.same (s11.trans (s12.trans g13))) ⟨⟨z3,sh,ah,g13 _ _ e12,((T10.same s11).same s12).same g13⟩,λv hv=>RG.rng v (g7 (g7 hv)),by rw[dh,dh];lia,j5 h0,iT sa (m5 h0),iT sb (m6 h0),iI h0⟩
 refine ⟨_,rfl,(by show 0<=Ao;decide),λo5 ho5 =>?_⟩
 have g5:=ai ho5 (.tup [])
 have e5:upd H4 o5 (.tup []) o5=some (.tup (([]:List Int).map V.int)):=ah
 have b5:=b34.same g5
 have eo5:=g5 _ _ eo4
 have t5:=t4.same g5
 have ebs5:=g5 _ _ ebs4
 generalize upd H4 o5 (.tup [])=H5 at g5 e5 b5 eo5 t5 ebs5
 refine ⟨bs,o5,Bs,[],rfl,rfl,SqT.of ebs5,SqT.of e5,_,rfl,dQ (λz5 =>?_) λz5 =>?_⟩
 ·refine ⟨_,rfl,_,rfl,r,_,0,_,rfl,rfl,SqT.of (b5.tup hp e1),rfl,(m:Int),rfl,by lia,by lia,cF (λi ys H'=>H'=H5/\∃ws:List Int,ys=ws.map V.int/\ws.length<=i) ⟨rfl,[],rfl,Ag _⟩ (cy (by lia)) ?_ ?_⟩
  ·rintro i ys H8 hi _ ⟨rfl,ws,rfl,lw⟩ R1 R0 r1 r0
   refine ⟨_,rfl,_,rfl,so,_,rfl,.inr (SqT.of eo5),rfl,bo So,_,rfl,dQ (λz=>⟨_,rfl,r1 _ _ ⟨rfl,ws++[0+(i:Int)],by rw[AE];rfl,by rw[Ae];show _+1<=_;lia⟩⟩) λz=>r0 _ ⟨rfl,ws,rfl,by lia⟩⟩
  rintro ys H8 _ ⟨rfl,ws,rfl,lw⟩ l hl
  have g8:=ai hl (.lst (ws.map V.int))
  refine ⟨l,_,rfl,.inl ⟨SqL.of ah,λtp htp =>?_⟩⟩
  have g9:=g8.trans (ai htp (.tup (ws.map V.int)))
  refine fK.mpr ⟨r,tp,m,ts,ws,rfl,(W.bu b5 hp).same g9,.inr ah,λz us' H10 s10 W10 _ =>?_⟩
  have b10:=b5.same (g9.trans s10)
  have T10:=(t5.same g9).same s10
  refine df.mpr ⟨z,m,us',rfl,W10,by lia,λH11 s11 _ =>?_,λz2 H11 Z M s11 ez hM mn hAl _ =>?_⟩
  ·exact ⟨_,rfl,rfl,_,rfl,a9 (q0 _ (b10.same s11))⟩
  obtain ⟨a',c',hab,hA⟩:=hAl
  have RG:=Al.ring (qR W10) hab hA
  have lZ:=fg RG.nd RG.rng
  refine ⟨_,rfl,rfl,_,rfl,aX ⟨_,rfl,cx.mpr ⟨z2,frm Z M,rfl,ez,vv RG.ne,by rw[dh];lia,λz3 H12 M' s12 _ _ e12 =>?_⟩⟩⟩
  refine ⟨_,rfl,(by show 3<=Ao;decide),λla hla =>?_⟩
  have g13:=ai hla (.tup [.str "ring",.ref z3,.ref sh])
  exact q1 la false (frm (frm Z M) M') _ _ _ (b10.same (s11.trans (s12.trans g13))) ⟨⟨z3,sh,ah,g13 _ _ e12,((T10.same s11).same s12).same g13⟩,λv hv=>RG.rng v (g7 (g7 hv)),by rw[dh,dh];lia,j5 h0,iT sa (m5 h0),iT sb (m6 h0),iI h0⟩
 have Bn:Bs≠[]:=λz'=>z5 (decide_eq_true z')
 have rB:∀v∈Bs,0<=v/\v<m:=λv hv=>ro v (subs v hv)
 refine ⟨_,rfl,rfl,_,rfl,dQ (λz6 =>?_) λz6 =>?_⟩
 ·refine ⟨_,rfl,_,rfl,_,rfl,gC.mpr ⟨p,r,bs,m,ts,Bs,rfl,b5.pot,W.bu b5 hp,ebs5,Bn,by lia,degs,λz7 Z H7 b7 ez nZ sZ lZ =>?_⟩⟩
  have t7:=t5.bu b7 b5.pot
  refine cx.mpr ⟨z7,Z,rfl,ez,nZ,by lia,λz3 H12 M' s12 _ _ e12 =>?_⟩
  refine ⟨_,rfl,(by show 3<=Ao;decide),λla hla =>?_⟩
  have g13:=ai hla (.tup [.str "ring",.ref z3,.ref sh])
  exact q1 la false (frm Z M') _ _ _ ((b5.trans b7).same (s12.trans g13)) ⟨⟨z3,sh,ah,g13 _ _ e12,(t7.same s12).same g13⟩,λv hv=>rB v (sZ v (g7 hv)),by rw[dh];lia,j5 h0,iT sa (m5 h0),iT sb (m6 h0),iI h0⟩
 ·refine ⟨_,rfl,_,rfl,(by show 3<=Ao;decide),λla hla =>?_⟩
  have g13:=ai hla (.tup [.str "ties",.ref bs,.ref sh])
  exact q1 la true Bs _ _ _ (b5.same g13) ⟨⟨bs,sh,ah,g13 _ _ ebs5,t5.same g13⟩,rB,by lia,j5 h0,iT sa (m5 h0),iT sb (m6 h0),iI h0⟩
end
open PySem L2
theorem vx {K:z8}{H:Hp}{l a:Addr}{us:List (Addr×Int×Int)}{g:Nat->Int×Int}{x y:Int}(e:H l=some (.lst (us.map λu =>.ref u.1)))(t:∀u∈us,Two K H u.1 u.2.1 u.2.2)(v:∀(j:Nat) u,us[j]? = some u->u.2=g j)(ta:Two K H a x y)(hx:(x,y)=g us.length):fU K (us.length+1) (upd H l (.lst (us.map (λu=>V.ref u.1)++[.ref a]))) l g:=by
 refine ⟨us++[(a,x,y)],by rw[ah,AE];rfl,by rw[Ae];rfl,λu hu =>?_,λj u hu =>?_⟩
 ·rcases As.mp hu with z | z
  ·exact (t u z).put e
  ·rw[Ah.mp z];exact ta.put e
 ·by_cases c:j<us.length
  ·rw[AW c] at hu
   exact v j u hu
  ·have hl:=(Af.mp hu).1
   rw[Ae] at hl
   have hl:j<us.length+1:=hl
   have:j=us.length:=by lia
   subst this
   rw[A0 (Ag _),FY] at hu
   rw[<- AI hu];exact hx
theorem xH {i:Int}(h0 : -100000<i)(h1:i<100000):Wd i:=(fv h0 h1).wd
section
variable  {P:Au}{w:AV}{K:z8}{mg:Str->Option z9}{base:Heap}{f T:Addr}{fd:A3}
theorem aU:aE ["web", "layer", "word", "places", "share", "ties", "found", "place", "take"] ["web", "layer"] (ak cQ):=⟨rfl,rfl,rfl,by decide +kernel,rfl,by decide +kernel,by decide +kernel⟩
theorem kG (F:Fun K "_law_layer_takes" "_law_layer_takes" cQ f fd)(B:Blt mg)(cLTiesIn:Cal P w K mg base 1 "_law_ties_in" ["web", "places"] l6)(cLLowest:Cal P w K mg base 2 "_law_lowest" ["top", "bottom"] (kE K)):a7 P w K mg base CX0 3 f fd ["web", "layer"] (fO K):=by
 refine F.ok aU (λvs H Q E h =>?_) (λcdv A outer s H vs Q E hr h =>?_)
 ·obtain ⟨_,_,_,_,_,_,_,_,rfl,_⟩:=bX.mp h
  rfl
 obtain ⟨r,la,m,ts,tie,Pl,s0,s1,rfl,W,m4,LY,q⟩:=bX.mp h
 have hu:(iU CX0 P w K mg base ["web", "layer", "word", "places", "share", "ties", "found", "place", "take"] "_law_layer_takes" (ak cQ) f cdv A outer s H E).nox.A.units+1<cLine:=nJ hr
 refine ⟨_,(@ag _ _ _ _ _ (@f9 _ _ _ _ _ _ (pv 1) (oV rfl (cE (aH (i:=2) aU.nd rfl (Or.inl rfl)) (cE (aH (i:=3) aU.nd rfl (Or.inl rfl)) (cE (aH (i:=4) aU.nd rfl (Or.inl rfl)) me)))) rfl rfl rfl)
  (@ag _ _ _ _ _ (@ax _ _ 5 _ _ _ _ aU.nd rfl (Or.inl rfl) (ay cLTiesIn hr (by decide) rfl (@aa _ _ _ _ _ (pv 0) (@aa _ _ _ _ _ (pv 3) af rfl) rfl)) rfl (by first | exact .inl rfl | exact .inr rfl | assumption))
  (@ag _ _ _ _ _ (@ax _ _ 6 _ _ _ _ aU.nd rfl (Or.inl rfl) (@cJ _ _ _ _ af) rfl (by first | exact .inl rfl | exact .inr rfl | assumption))
  (@ag _ _ _ _ _ (@cf _ _ _ _ _ _ _ _ Bh rfl (bB rfl B.b_range (@aa _ _ _ _ _ (@aq _ _ _ _ _ _ _ au (pv 0) ae (λ_ _=>rfl)) af rfl)) (aH (i:=7) aU.nd rfl (Or.inl rfl))
   (@ag _ _ _ _ _ (@ax _ _ 8 _ _ _ _ aU.nd rfl (Or.inl rfl) (@bC _ _ _ _ _ (@aa _ _ _ _ _ ae (@aa _ _ _ _ _ ae af rfl) rfl)) rfl (by first | exact .inl rfl | exact .inr rfl | assumption))
   (@ag _ _ _ _ _ (@aZ _ _ _ _ _ _ _ _ (PW.pt (cq (dM (ir hu (pv 7) (pv 5))) (bN (av cp (pv 2) eE (aJ _))))) (@aj _ _ _ (@ax _ _ 8 _ _ _ _ aU.nd rfl (Or.inl rfl) (pv 4) rfl (by first | exact .inl rfl | exact .inr rfl | assumption))) aM)
   (@ag _ _ _ _ _ (@aZ _ _ _ _ _ _ _ _ (PW.pt (cq (dM (ir hu (pv 7) (pv 5))) (bN (av cp (pv 2) eE (aJ _))))) (@aj _ _ _ (@ax _ _ 8 _ _ _ _ aU.nd rfl (Or.inl rfl) (ay cLLowest hr (by decide) rfl (@aa _ _ _ _ _ (@az _ _ _ _ _ _ _ _ dY (@aq _ _ _ _ _ _ _ au (pv 4) ae (λ_ _=>rfl)) (@az _ _ _ _ _ _ _ _ gh (gQ hu (pv 5) (pv 7) (λ_ _=>rfl)) ae)) (@aa _ _ _ _ _ (@aq _ _ _ _ _ _ _ au (pv 4) ae (λ_ _=>rfl)) af rfl) rfl)) rfl (by first | exact .inl rfl | exact .inr rfl | assumption))) aM)
   (@aj _ _ _ (cc (eD Be Bp Bq bL (pv 6) (@aa _ _ _ _ _ (pv 8) af rfl))))))) (λ_=>rfl))
  (@aj _ _ _ (@aF _ _ _ _ (pv 6))))))),?_⟩
 obtain ⟨t,e1,e2⟩:=W.at'
 obtain ⟨pl,sh,ea,ep,es⟩:=LY.at'
 have tl:=W.len
 refine ⟨_,rfl,la,_,rfl,SqT.of ea,rfl,_,_,rfl,_,_,rfl,_,_,rfl,rfl,?_⟩
 refine ⟨_,rfl,_,rfl,dH.mpr ⟨r,pl,m,ts,Pl,rfl,W,.inr ep,LY.len,λd H1 s1' hd D1 =>?_⟩⟩
 refine ⟨(by show 0<=Ao;decide),λl hl =>?_⟩
 have hl0:=s1'.free hl
 have ndl:d≠l:=λz=>by
  obtain ⟨kvs,e,_⟩:=D1
  rw[z,hl] at e;cases e
 have g2:=s1'.trans (ai hl (.lst []))
 have D2:=D1.same (ai hl (.lst []))
 have T2:fU K 0 (upd H1 l (.lst [])) l (tkv tie (tin (ts.map (·.2)) Pl) s0 s1 Pl):=⟨[],ah,rfl,(λu h=>nomatch h),λj u h=>nomatch h⟩
 generalize upd H1 l (.lst [])=H2 at g2 D2 T2
 let W0:Nat->St->Hp->Prop:=λk σ H'=>(∃c7 c8,σ=[some (.ref r),some (.ref la),some (.str (wrd tie)),some (.ref pl),some (.ref sh),some (.ref d),some (.ref l),c7,c8])/\aA H H'/\Dn H' d Pl (tin (ts.map (·.2)) Pl) 1000/\fU K k H' l (tkv tie (tin (ts.map (·.2)) Pl) s0 s1 Pl)
 refine ⟨_,rfl,r,_,0,_,rfl,rfl,SqT.of (g2 _ _ e1),rfl,(m:Int),rfl,by lia,by lia,cu W0 ⟨⟨_,_,rfl⟩,g2,D2,T2⟩ ?_ ?_⟩
 ·rintro k σ H3 hk ⟨⟨c7,c8,rfl⟩,s3,D3,us,el,lu,tu,vu⟩
  have hkm:k<m:=by lia
  refine ⟨(by show 2<=Ao;decide),λt0 ht0 =>?_⟩
  have g4:=ai ht0 (.tup [.int 0,.int 1])
  have e4:Two K (upd H3 t0 (.tup [.int 0,.int 1])) t0 0 1:=SqT.of ah
  have s4:=s3.trans g4
  have D4:=D3.same g4
  have el4:=g4 _ _ el
  have tu4:∀u∈us,Two K (upd H3 t0 (.tup [.int 0,.int 1])) u.1 u.2.1 u.2.2:=λu hu=>(tu u hu).same g4
  generalize upd H3 t0 (.tup [.int 0,.int 1])=H4 at g4 e4 s4 D4 el4 tu4
  have gk:=D4.get (0+(k:Int))
  have es4:=es.same s4
  have fin:∀{H5:Hp} {a:Addr} {x y:Int},aA H4 H5->Two K H5 a x y->(x,y)=tkv tie (tin (ts.map (·.2)) Pl) s0 s1 Pl k->aA H (upd H5 l (.lst (us.map (λu=>V.ref u.1)++[.ref a])))/\Dn (upd H5 l (.lst (us.map (λu=>V.ref u.1)++[.ref a]))) d Pl (tin (ts.map (·.2)) Pl) 1000/\fU K (k+1) (upd H5 l (.lst (us.map (λu=>V.ref u.1)++[.ref a]))) l (tkv tie (tin (ts.map (·.2)) Pl) s0 s1 Pl):=λ{H5 a x y} s5 ta hx=>by
   refine ⟨aA.bQ (s4.trans s5) hl0 _,?_,?_⟩
   ·obtain ⟨kvs,e,r⟩:=D4.same s5
    exact ⟨kvs,by rw[aD ndl];exact e,r⟩
   ·have:=vx (s5 _ _ el4) (λu hu=>(tu4 u hu).same s5) vu ta (by rw[lu];exact hx)
    rw[lu] at this
    exact this
  have lm:(us.map λu=>V.ref u.1).length<Ao:=cK (by rw[z4];lia)
  refine ⟨_,rfl,_,rfl,d,_,rfl,gk,_,rfl,?_⟩
  by_cases ck:(k:Int)∈Pl
  case neg =>
   have ck':¬ 0+(k:Int)∈Pl:=by rw[E9];exact ck
   rw[if_neg ck'] at gk ⊢
   refine aX (aX ⟨_,rfl,_,rfl,d,_,rfl,gk,_,rfl,aX (aX ⟨_,rfl,.inl ⟨rfl,_,SqL.of el4⟩,_,rfl,l,_,_,rfl,rfl,el4,lm,⟨_,_,rfl⟩,fin (aA.refl _) e4 ?_⟩)⟩)
   unfold tkv
   rw[if_neg ck]
  have ck':0+(k:Int)∈Pl:=by rw[E9];exact ck
  rw[if_pos ck'] at gk ⊢
  refine a9 ⟨_,rfl,rfl,_,rfl,?_⟩
  rw[kh]
  cases tie with
  | false =>
   refine a9 ⟨_,rfl,_,rfl,_,rfl,d,_,rfl,gk,_,rfl,a9 ⟨_,rfl,rfl,_,rfl,?_⟩⟩
   rw[kg]
   refine aX ⟨_,rfl,.inl ⟨rfl,_,SqL.of el4⟩,_,rfl,l,_,_,rfl,rfl,el4,lm,⟨_,_,rfl⟩,fin (aA.refl _) es4 ?_⟩
   unfold tkv
   rw[if_pos ck];rfl
  | true =>
   have tb:=vn (ts.map (·.2)) Pl (0+(k:Int))
   rw[z4] at tb
   refine aX ⟨_,rfl,_,rfl,d,_,rfl,gk,_,rfl,a9 ⟨_,rfl,rfl,_,rfl,?_⟩⟩
   rw[kg]
   refine a9 ⟨_,rfl,sh,_,0,_,rfl,rfl,es4,at0,_,rfl,_,rfl,d,_,rfl,gk,_,_,rfl,rfl,_,_,rfl,rfl,⟨LY.sa.wd,xH (by lia) (by lia)⟩,_,rfl,sh,_,1,_,rfl,rfl,es4,at1,bS.mpr ⟨_,s1,rfl,LY.pos,LY.sb.wd,λz H5 s5 tz =>?_⟩⟩
   have el5:=s5 _ _ el4
   refine ⟨_,rfl,.inl ⟨rfl,_,SqL.of el5⟩,_,rfl,l,_,_,rfl,rfl,el5,lm,⟨_,_,rfl⟩,fin s5 tz ?_⟩
   unfold tkv
   rw[if_pos ck,if_pos rfl,E9]
 ·rintro σ H3 ⟨⟨c7,c8,rfl⟩,s3,D3,T3⟩
  rw[show ((m:Nat):Int).toNat=m by lia] at T3
  exact ⟨_,rfl,q l _ s3 hl0 T3⟩
end
section
variable  {P:Au}{w:AV}{K:z8}{mg:Str->Option z9}{base:Heap}{f T:Addr}{fd:A3}
theorem bT:aE ["web", "layer", "word", "places", "share", "ties"] ["web", "layer"] (ak d7):=⟨rfl,rfl,rfl,by decide +kernel,rfl,by decide +kernel,by decide +kernel⟩
theorem dt:(["tie", "places"]:List Str).Nodup:=by decide +kernel
theorem kI (F:Fun K "_law_layer_bound" "_law_layer_bound" d7 f fd)(B:Blt mg)(cLLowest:Cal P w K mg base 2 "_law_lowest" ["top", "bottom"] (kE K)):a7 P w K mg base CX0 3 f fd ["web", "layer"] (fP K):=by
 refine F.ok bT (λvs H Q E h =>?_) (λcdv A outer s H vs Q E hr h =>?_)
 ·obtain ⟨_,_,_,_,_,_,_,_,rfl,_⟩:=bY.mp h
  rfl
 obtain ⟨r,la,m,ts,tie,Pl,s0,s1,rfl,W,LY,q⟩:=bY.mp h
 refine ⟨_,(@ag _ _ _ _ _ (@f9 _ _ _ _ _ _ (pv 1) (oV rfl (cE (aH (i:=2) bT.nd rfl (Or.inl rfl)) (cE (aH (i:=3) bT.nd rfl (Or.inr rfl)) (cE (aH (i:=4) bT.nd rfl (Or.inl rfl)) me)))) rfl rfl rfl)
  (@ag _ _ _ _ _ (@aZ _ _ _ _ _ _ _ _ (av cp (pv 2) eE (aJ _)) (@aj _ _ _ (@aF _ _ _ _ (pv 4))) aM)
  (@ag _ _ _ _ _ (@ax _ _ 5 _ _ _ _ bT.nd rfl (Or.inl rfl) (aB aO rfl B.b_len bV (@aa _ _ _ _ _ (cj ["tie", "places"] [none,some 3] rfl (@gf _ _ _ _ (@aq _ _ _ _ _ _ _ au (pv 0) ae (λ_ _=>rfl))) rfl (λ_ _ _ _ _=>(aH (i:=0) dt rfl (Or.inl rfl))) (λ_ _ _ _ _=>(dS (PW.pt (cq (av (jI (K:=K)) (@aq _ _ _ _ _ _ _ (da (K:=K)) (pv 0) ae (λ_ _=>rfl)) (pv 1) rfl) (bN (av (jI (K:=K)) (@aq _ _ _ _ _ _ _ (da (K:=K)) (pv 0) ae (λ_ _=>rfl)) (pv 1) rfl)))))) (λ_ _ _ _ _=>(pv 0))) af rfl)) rfl (by first | exact .inl rfl | exact .inr rfl | assumption))
  (@aj _ _ _ (@aF _ _ _ _ (ay cLLowest hr (by decide) rfl (@aa _ _ _ _ _ (@az _ _ _ _ _ _ _ _ dY (@aq _ _ _ _ _ _ _ au (pv 4) ae (λ_ _=>rfl)) (@az _ _ _ _ _ _ _ _ bh (@az _ _ _ _ _ _ _ _ gh (pv 5) (aB aO rfl B.b_len bV (@aa _ _ _ _ _ (pv 3) af rfl))) ae)) (@aa _ _ _ _ _ (@aq _ _ _ _ _ _ _ au (pv 4) ae (λ_ _=>rfl)) af rfl) rfl))))))),?_⟩
 obtain ⟨t,e1,e2⟩:=W.at'
 obtain ⟨pl,sh,ea,ep,es⟩:=LY.at'
 have pl2:=LY.len
 refine ⟨_,rfl,la,_,rfl,SqT.of ea,rfl,_,_,rfl,_,_,rfl,_,_,rfl,rfl,?_⟩
 refine ⟨_,rfl,rfl,_,rfl,?_⟩
 rw[kh]
 cases tie with
 | false=>exact a9 ⟨_,rfl,q sh _ (aA.refl _) es⟩
 | true =>
  refine aX ?_
  have lum:(ts.map λu=>V.ref u.1).length=ts.length:=z4 _
  have tl:=W.len
  refine ⟨_,rfl,r,_,1,_,rfl,rfl,SqT.of e1,rfl,t,rfl,⟨_,SqT.of e2⟩,fC (xs:=ts.map λu =>.ref u.1) (λi ys H'=>H'=H/\ys=((ts.take i).filter λu=>inn Pl u.2).map λu=>V.ref u.1) ⟨rfl,rfl⟩ (by rw[lum];exact cy (by lia)) (λi ys H' _ h=>by rw[h.1];exact SqT.of e2) ?_ ?_⟩
  ·rintro i x ys H1 hx _ ⟨rfl,rfl⟩ R1 R0 r1 r0
   obtain ⟨u,eu,rfl⟩:=j8 hx
   have um:=Aj eu
   obtain ⟨a,b,ab,_⟩:=W.pr u um
   have eu1:=W.tup u um
   have tk:((ts.take (i+1)).filter λu=>inn Pl u.2)=((ts.take i).filter λu=>inn Pl u.2)++if inn Pl u.2=true then [u] else []:=by
    rw[Bm,eu,CH]
    congr 1
    by_cases c:inn Pl u.2=true
    ·rw[if_pos c,Cq,BZ (by exact c)];rfl
    ·rw[if_neg c,Cq,B0 (by exact c)];rfl
   have iv:inn Pl u.2=(decide (a∈Pl) && decide (b∈Pl)):=by rw[ab];rfl
   rw[ab] at eu1
   refine ⟨_,rfl,u.1,_,0,_,rfl,rfl,SqT.of eu1,rfl,_,rfl,pl,_,rfl,.inr (SqT.of ep),rfl,bo Pl,_,rfl,?_⟩
   show if inV (.int a) (Pl.map V.int)=true then _ else _
   rw[mL]
   by_cases ca:a∈Pl
   ·rw[decide_eq_true ca]
    refine a9 ⟨_,rfl,u.1,_,1,_,rfl,rfl,SqT.of eu1,rfl,_,rfl,pl,_,rfl,.inr (SqT.of ep),rfl,bo Pl,_,rfl,?_⟩
    show if inV (.int b) (Pl.map V.int)=true then _ else _
    rw[mL]
    by_cases cb:b∈Pl
    ·rw[decide_eq_true cb]
     refine a9 ⟨_,rfl,r1 _ _ ⟨rfl,?_⟩⟩
     rw[tk,if_pos (by rw[iv,decide_eq_true ca,decide_eq_true cb];rfl),AE];rfl
    ·rw[decide_eq_false cb]
     refine aX (r0 _ ⟨rfl,?_⟩)
     rw[tk,if_neg (by rw[iv,decide_eq_false cb,CU];exact Ak),AU]
   ·rw[decide_eq_false ca]
    refine aX (aX (r0 _ ⟨rfl,?_⟩))
    rw[tk,if_neg (by rw[iv,decide_eq_false ca,CT];exact Ak),AU]
  rintro ys H1 _ ⟨rfl,rfl⟩ l hl
  rw[lum,Cs]
  have lf:(ts.filter λu=>inn Pl u.2).length=((ts.map (·.2)).filter (inn Pl)).length:=by rw[EY,z4];rfl
  have g1:=ai hl (.lst ((ts.filter λu=>inn Pl u.2).map λu=>V.ref u.1))
  refine ⟨l,_,rfl,.inl (SqL.of ah),?_⟩
  rw[z4,lf]
  generalize upd H1 l (.lst ((ts.filter λu=>inn Pl u.2).map λu=>V.ref u.1))=H2 at g1
  have fl:((ts.map (·.2)).filter (inn Pl)).length<=ts.length:=by
   have:=Cg (inn Pl) (ts.map (·.2))
   rw[z4] at this
   exact this
  have es2:=es.same g1
  refine ⟨_,rfl,sh,_,0,_,rfl,rfl,es2,at0,_,rfl,_,rfl,pl,_,rfl,.inr (SqT.of (g1 _ _ ep)),_,_,rfl,rfl,_,_,rfl,rfl,_,_,rfl,rfl,⟨LY.sa.wd,?_⟩,?_⟩
  ·rw[z4];exact xH (by lia) (by lia)
  rw[z4]
  refine ⟨_,rfl,sh,_,1,_,rfl,rfl,es2,at1,bS.mpr ⟨_,s1,rfl,LY.pos,LY.sb.wd,λz H5 s5 tz=>q z _ (g1.trans s5) tz⟩⟩
end
open PySem L2
def oT (K:z8):Sp:=λvs H Q _=>∃(a:Addr) (ns:List Int),vs=[.ref a]/\SqL K H a (ns.map V.int)/\ns.length<=63/\∀H',Q (.bl true) H'
theorem l7 {K:z8}{vs:List V}{H:Hp}{Q:VK}{E:XK}:oT K vs H Q E↔∃(a:Addr) (ns:List Int),vs=[.ref a]/\SqL K H a (ns.map V.int)/\ns.length<=63/\∀H',Q (.bl true) H':=Cp
theorem js {K:z8}{H:Hp}{n:Nat}(z:Int):EqS K H n (.int z) (.int z):=by cases n <;> exact .inl ⟨z,rfl,rfl⟩
theorem xk {K:z8}{H:Hp}{n:Nat}{a b:Addr}{x y:Int}(h1:Two K H a x y)(h2:Two K H b x y):EqS K H (n+1) (.ref a) (.ref b) :=.inr (.inr (.inr ⟨a,b,_,_,rfl,rfl,.inl ⟨h1,h2⟩,.cons (js _) (.cons (js _) .nil)⟩))
theorem oU {K:z8}{H:Hp}{n:Nat}:∀{us vs:List (Addr×Int×Int)},us.map (·.2)=vs.map (·.2)->(∀u∈us,Two K H u.1 u.2.1 u.2.2)->(∀u∈vs,Two K H u.1 u.2.1 u.2.2)->Paired (EqS K H (n+1)) (us.map λu=>V.ref u.1) (vs.map λu=>V.ref u.1)
 | [],[],_,_,_ =>.nil
 | [],_ :: _,e,_,_=>by cases e
 | _ :: _,[],e,_,_=>by cases e
 | u :: us,v :: vs,e,h1,h2=>by
  rw[AL,AL] at e
  injection e with e1 e2
  have t1:=h1 u AN
  rw[e1] at t1
  exact .cons (xk t1 (h2 v AN)) (oU e2 (λw hw=>h1 w (AK _ hw)) λw hw=>h2 w (AK _ hw))
theorem vy {m:Nat}{us:List (Addr×Int×Int)}{g:Nat->Int×Int}(l:us.length=m)(v:∀(j:Nat) u,us[j]? = some u->u.2=g j):us.map (·.2)=(Bv m).map g:=by
 apply EA
 intro i
 rw[Aw,Aw]
 cases h:us[i]? with
 | some u =>
  have:=(Af.mp h).1
  rw[Gn (by lia)]
  exact congrArg some (v i u h)
 | none =>
  have:=List.getElem?_eq_none_iff.mp h
  rw[Bx (by rw[CW];lia)]
  rfl
theorem xo {tie:Bool}{f:Int->Int}{s0 s1:Int}{S:List Int}{j:Nat}(h0:0<s1)(h1:j6 s0 s1=true):j6 (tkv tie f s0 s1 S j).1 (tkv tie f s0 s1 S j).2=true:=by
 unfold tkv
 split
 ·split
  ·exact iI h0
  ·exact h1
 ·decide +kernel
theorem xp {tie:Bool}{ns:List (List Int)}{P:List Int}{s0 s1:Int}(h0:0<s1)(h1:j6 s0 s1=true):j6 (bnv tie ns P s0 s1).1 (bnv tie ns P s0 s1).2=true:=by
 unfold bnv
 split
 ·exact iI h0
 ·exact h1
theorem vz {K:z8}{H H':Hp}{a:Addr}{xs:List V}(h:SqL K H a xs)(s:aA H H'):SqL K H' a xs:=s.seq h
section
variable  {P:Au}{w:AV}{K:z8}{mg:Str->Option z9}{base:Heap}{f T:Addr}{fd:A3}
theorem hE:aE ["script", "k", "pot", "web", "layer", "due", "turn", "found", "bound"] ["script"] (ak sO):=⟨rfl,rfl,rfl,by decide +kernel,rfl,by decide +kernel,by decide +kernel⟩
theorem sV:(["one"]:List Str).Nodup:=by decide +kernel
theorem zX (F:Fun K "law" "law" sO f fd)(B:Blt mg)(cLDeal:Cal P w K mg base 1 "_law_deal" ["script", "k"] (ng K))(cLWideWeb:Cal P w K mg base 3 "_law_wide_web" ["pot", "many", "room"] lV)(cLLayer:Cal P w K mg base 6 "_law_layer" ["pot", "web"] (jq K))(cLLayerTakes:Cal P w K mg base 3 "_law_layer_takes" ["web", "layer"] (fO K))(cLayerBound:Cal P w K mg base 4 "layer_bound" ["web", "layer"] (fP K))(cLayerTakes:Cal P w K mg base 4 "layer_takes" ["web", "layer"] (fO K))(cLIsRatio:Cal P w K mg base 2 "_law_is_ratio" ["thing"] (q8 K))(cLLayerBound:Cal P w K mg base 3 "_law_layer_bound" ["web", "layer"] (fP K)):a7 P w K mg base CX0 7 f fd ["script"] (oT K):=by
 refine F.ok hE (λvs H Q E h =>?_) (λcdv A outer s H vs Q E hr h =>?_)
 ·obtain ⟨_,_,rfl,_⟩:=l7.mp h
  rfl
 obtain ⟨a,ns,rfl,hS,h63,q⟩:=l7.mp h
 refine ⟨_,(@ag _ _ _ _ _ (@cf _ _ _ _ _ _ _ _ Bh rfl (bB rfl B.b_range (@aa _ _ _ _ _ (aB (fz rfl) rfl B.b_max j1 (@aa _ _ _ _ _ ae (@aa _ _ _ _ _ (aB (kP rfl) rfl B.b_min iC (@aa _ _ _ _ _ (aB aO rfl B.b_len bV (@aa _ _ _ _ _ (pv 0) af rfl)) (@aa _ _ _ _ _ ae af rfl) rfl)) af rfl) rfl)) af rfl)) (aH (i:=1) hE.nd rfl (Or.inl rfl))
   (@ag _ _ _ _ _ (@ax _ _ 2 _ _ _ _ hE.nd rfl (Or.inl rfl) (ay cLDeal hr (by decide) rfl (@aa _ _ _ _ _ (pv 0) (@aa _ _ _ _ _ (pv 1) af rfl) rfl)) rfl (by first | exact .inl rfl | exact .inr rfl | assumption))
   (@ag _ _ _ _ _ (@ax _ _ 3 _ _ _ _ hE.nd rfl (Or.inl rfl) (ay cLWideWeb hr (by decide) rfl (@aa _ _ _ _ _ (pv 2) (@aa _ _ _ _ _ ae (@aa _ _ _ _ _ ae af rfl) rfl) rfl)) rfl (by first | exact .inl rfl | exact .inr rfl | assumption))
   (@ag _ _ _ _ _ (@ax _ _ 4 _ _ _ _ hE.nd rfl (Or.inl rfl) (ay cLLayer hr (by decide) rfl (@aa _ _ _ _ _ (pv 2) (@aa _ _ _ _ _ (pv 3) af rfl) rfl)) rfl (by first | exact .inl rfl | exact .inr rfl | assumption))
   (@aj _ _ _ (@aZ _ _ _ _ _ _ _ _ (av mi (pv 4) dJ (aJ _)) (@ag _ _ _ _ _ (@ax _ _ 5 _ _ _ _ hE.nd rfl (Or.inl rfl) (ay cLLayerTakes hr (by decide) rfl (@aa _ _ _ _ _ (pv 3) (@aa _ _ _ _ _ (pv 4) af rfl) rfl)) rfl (by first | exact .inl rfl | exact .inr rfl | assumption))
    (@ag _ _ _ _ _ (@cf _ _ _ _ _ _ _ _ Bh rfl (bB rfl B.b_range (@aa _ _ _ _ _ ae af rfl)) (aH (i:=6) hE.nd rfl (Or.inl rfl))
     (@ag _ _ _ _ _ (@ax _ _ 7 _ _ _ _ hE.nd rfl (Or.inl rfl) (ay cLayerTakes hr (by decide) rfl (@aa _ _ _ _ _ (pv 3) (@aa _ _ _ _ _ (pv 4) af rfl) rfl)) rfl (by first | exact .inl rfl | exact .inr rfl | assumption))
     (@ag _ _ _ _ _ (@aZ _ _ _ _ _ _ _ _ (PW.pt (iL (hW (hJ (aB eO rfl B.b_isinstance cD (@aa _ _ _ _ _ (pv 7) (@aa _ _ _ _ _ (iY (v :=.ty "list") rfl B.b_list qJ rfl) af rfl) rfl)))) (hV (av (wQ hr) (pv 7) (pv 5) (aJ _))))) hX aM)
     (@ag _ _ _ _ _ (@aZ _ _ _ _ _ _ _ _ (hW (hJ (aB (uc rfl) rfl B.b_all yN (@aa _ _ _ _ _ (cj ["one"] [none] rfl (@cM _ _ _ _ (pv 7)) rfl (λ_ _ _ _ _=>(aH (i:=0) sV rfl (Or.inl rfl))) (λ_ _ _ _ _=>jH) (λ_ _ _ _ _=>(ay cLIsRatio hr (by decide) rfl (@aa _ _ _ _ _ (pv 0) af rfl)))) af rfl)))) hX aM)
     (@aj _ _ _ (cc (eD Be Bp Bq bL (pv 7) (@aa _ _ _ _ _ (@bC _ _ _ _ _ (@aa _ _ _ _ _ ae (@aa _ _ _ _ _ ae af rfl) rfl)) af rfl))))))) (λ_=>rfl))
    (@ag _ _ _ _ _ (@ax _ _ 8 _ _ _ _ hE.nd rfl (Or.inl rfl) (ay cLayerBound hr (by decide) rfl (@aa _ _ _ _ _ (pv 3) (@aa _ _ _ _ _ (pv 4) af rfl) rfl)) rfl (by first | exact .inl rfl | exact .inr rfl | assumption))
    (@aj _ _ _ (@aZ _ _ _ _ _ _ _ _ (PW.pt (iL (hW (hJ (ay cLIsRatio hr (by decide) rfl (@aa _ _ _ _ _ (pv 8) af rfl)))) (hV (av (wL hr) (pv 8) (ay cLLayerBound hr (by decide) rfl (@aa _ _ _ _ _ (pv 3) (@aa _ _ _ _ _ (pv 4) af rfl) rfl)) (aJ _))))) hX aM))))) aM))))) (λ_=>rfl))
  (@aj _ _ _ (@aF _ _ _ _ xq))),?_⟩
 have mx:∃n:Nat,(if (if (10:Int)<((ns.length:Nat):Int) then (10:Int) else ((ns.length:Nat):Int))>1 then (if (10:Int)<((ns.length:Nat):Int) then (10:Int) else ((ns.length:Nat):Int)) else 1)=(n:Int)/\n<=63:=by
  refine ⟨(if (if (10:Int)<((ns.length:Nat):Int) then (10:Int) else ((ns.length:Nat):Int))>1 then (if (10:Int)<((ns.length:Nat):Int) then (10:Int) else ((ns.length:Nat):Int)) else 1).toNat,?_,?_⟩
  ·split <;> split <;> lia
  ·split <;> split <;> lia
 obtain ⟨n,en,n63⟩:=mx
 refine ⟨_,rfl,a,_,rfl,.inl hS,_,_,rfl,_,_,rfl,(n:Int),by rw[z4, <- en],by lia,by lia,cu (λk σ H'=>(∃c1 c2 c3 c4 c5 c6 c7 c8,σ=[some (.ref a),c1,c2,c3,c4,c5,c6,c7,c8])/\aA H H') ⟨⟨_,_,_,_,_,_,_,_,rfl⟩,aA.refl _⟩ ?_ ?_⟩
 case refine_2 =>
  rintro σ H1 ⟨⟨c1,c2,c3,c4,c5,c6,c7,c8,rfl⟩,s1⟩
  exact q _
 rintro k σ H1 hk ⟨⟨c1,c2,c3,c4,c5,c6,c7,c8,rfl⟩,s1⟩
 refine ⟨_,rfl,_,rfl,gy.mpr ⟨a,ns,0+(k:Int),rfl,vz hS s1,by lia,by lia,λx y p hp =>?_⟩⟩
 have pt:Pt 2 (upd H1 p (.lst [.int x,.int y])) p:=⟨[x,y],rfl,ah⟩
 refine ⟨_,rfl,cz.mpr ⟨p,9,16,rfl,pt,by decide,by decide,λr m ts H2 b2 W m4 =>?_⟩⟩
 refine ⟨_,rfl,_,rfl,fw.mpr ⟨p,r,m,ts,rfl,b2.pot,W,m4,λH3 b3 =>?_,λla tie Pl s0 s1' H3 b3 LY =>?_⟩⟩
 ·exact ⟨_,rfl,rfl,_,rfl,aX ⟨⟨_,_,_,_,_,_,_,_,rfl⟩,s1.trans (Bu.fresh hp (b2.trans b3))⟩⟩
 have W3:=W.bu b3 b2.pot
 have s3:=s1.trans (Bu.fresh hp (b2.trans b3))
 refine ⟨_,rfl,rfl,_,rfl,a9 ⟨_,rfl,_,rfl,bX.mpr ⟨r,la,m,ts,tie,Pl,s0,s1',rfl,W3,m4,LY,λU H4 s4 hU T4 =>?_⟩⟩⟩
 let W0:Nat->St->Hp->Prop:=λt σ H'=>(∃c6 c7,σ=[some (.ref a),some (.int (0+(k:Nat))),some (.ref p),some (.ref r),some (.ref la),some (.ref U),c6,c7,c8])/\aA H3 H'/\fU K m H' U (tkv tie (tin (ts.map (·.2)) Pl) s0 s1' Pl)
 refine ⟨2,rfl,by decide,by decide,cu W0 ⟨⟨_,_,rfl⟩,s4,T4⟩ ?_ ?_⟩
 ·rintro tt σ H5 _ ⟨⟨c6',c7',rfl⟩,s5,T5⟩
  refine ⟨_,rfl,_,rfl,bX.mpr ⟨r,la,m,ts,tie,Pl,s0,s1',rfl,W3.same s5,m4,LY.same s5,λf H6 s6 hf T6 =>?_⟩⟩
  have s56:=s5.trans s6
  have T56:=T5.same s6
  obtain ⟨us,ef,lf,tf,vf⟩:=T6
  obtain ⟨vs,eU,lU,tU,vU⟩:=id T56
  refine ⟨_,rfl,.ref f, "list",_,true,rfl,.lst ef,rfl,_,rfl,aX ?_⟩
  refine ⟨_,rfl,_,rfl,f,U,_,_,rfl,rfl,SqL.of ef,SqL.of eU,oU ((vy lf vf).trans (vy lU vU).symm) tf tU,_,rfl,aX ?_⟩
  refine ⟨_,rfl,f,rfl,⟨_,SqL.of ef⟩,cw (xs:=us.map λu =>.ref u.1) (λi ys H'=>aA H6 H'/\ys=((us.take i).map λ_=>true).map V.bl) ⟨aA.refl _,rfl⟩ (by rw[z4];exact cy (by lia)) (λi ys H' _ h=>SqL.of (h.1 _ _ ef)) ?_ ?_⟩
  ·rintro i x ys H7 hx _ ⟨s7,rfl⟩ R1 R0 r1 r0
   obtain ⟨u,eu,rfl⟩:=j8 hx
   have lo:j6 u.2.1 u.2.2=true:=by
    have:=vf i u eu
    rw[this]
    exact xo LY.pos LY.low
   refine a9 ⟨_,rfl,(fL (E:=E0)).mpr ⟨u.1,_,_,rfl,(tf u (Aj eu)).same s7,lo,λH8 s8=>r1 _ _ ⟨s7.trans s8,?_⟩⟩⟩
   rw[take_snoc eu,AE];rfl
  ·rintro ys H7 _ ⟨s7,rfl⟩ l hl
   have g8:=s7.trans (ai hl (.lst (((us.take (us.map λu=>V.ref u.1).length).map λ_=>true).map V.bl)))
   refine ⟨l,_,rfl,SqL.of ah,_,rfl,?_⟩
   generalize upd H7 l (.lst (((us.take (us.map λu=>V.ref u.1).length).map λ_=>true).map V.bl))=H8 at g8
   have al:((us.take (us.map λu=>V.ref u.1).length).map λ_=>true).all id=true:=by rw[Ib,Dg];exact λ_ _=>rfl
   rw[al]
   have ef8:=g8 _ _ ef
   refine aX ⟨_,rfl,.inl ⟨rfl,_,SqL.of ef8⟩,(by show 2<=Ao;decide),λt9 ht9 =>?_⟩
   have g9:=g8.trans (ai ht9 (.tup [.int 0,.int 1]))
   have hf0:H3 f=none:=by
    cases h:H3 f with
    | none=>rfl
    | some o=>rw[s5 _ _ h] at hf;cases hf
   refine ⟨f,_,_,rfl,rfl,g9 _ _ ef,cK (by rw[z4];lia),⟨_,_,rfl⟩,aA.bQ (s56.trans g9) hf0 _,?_⟩
   obtain ⟨ws,eW,lW,tW,vW⟩:=T56.same g9
   have nfU:U≠f:=λz=>by
    obtain ⟨xs,e,_⟩:=T5
    rw[z,hf] at e;cases e
   exact ⟨ws,by rw[aD nfU];exact eW,lW,λu hu=>(tW u hu).put (g9 _ _ ef),vW⟩
 rintro σ H5 ⟨⟨c6',c7',rfl⟩,s5,T5⟩
 refine ⟨_,rfl,_,rfl,bY.mpr ⟨r,la,m,ts,tie,Pl,s0,s1',rfl,W3.same s5,LY.same s5,λb H6 s6 tb =>?_⟩⟩
 refine ⟨_,rfl,fL.mpr ⟨b,_,_,rfl,tb,xp LY.pos LY.low,λH7 s7=>⟨_,rfl,aX ?_⟩⟩⟩
 have s57:=s5.trans (s6.trans s7)
 refine ⟨_,rfl,_,rfl,_,rfl,bY.mpr ⟨r,la,m,ts,tie,Pl,s0,s1',rfl,W3.same s57,LY.same s57,λb2' H8 s8 tb2 =>?_⟩⟩
 refine ⟨b,b2',_,_,rfl,rfl,(tb.same s7).same s8,tb2,.cons (js _) (.cons (js _) .nil),_,rfl,aX ⟨⟨_,_,_,_,_,_,_,_,rfl⟩,s3.trans (s57.trans s8)⟩⟩
end
open PySem L2
theorem all_mk {l:PySem.W.OpenLaw}{w:AV}{K:z8}{h:Heap}{mg:Str->Option z9}{fa:Addr}(X:K.In h)(G:h.Ns A9 mg)(hfa:mg "law" = some (.ref fa))
  (h1:bG K "common_divisor" cY) (h2:sN K "ratio_of" jX 1) (h3:bG K "ratio_times" eV) (h4:bG K "tie_of" uS) (h5:bG K "near_lists" jY) (h6:bG K "tied_times" jZ) (h7:bG K "ties_within" eX) (h8:bG K "cut_web" qI) (h9:bG K "ring_form" iz) (h10:bG K "way_about" dF) (h11:bG K "ring_along" gq) (h12:bG K "shortest_of" eZ) (h13:bG K "least_along" e6) (h14:bG K "least_ring" gr) (h15:bG K "ties_among" gs) (h16:bG K "layer_takes" fc) (h17:bG K "layer_bound" fe) (h18:bG K "_law_deal" pQ) (h19:bG K "_law_take" pR) (h20:bG K "_law_big" uT) (h21:bG K "_law_web" uU) (h22:bG K "_law_wide_web" iA) (h23:bG K "_law_whole" mO) (h24:bG K "_law_part" pS) (h25:bG K "_law_is_ratio" iB) (h26:bG K "_law_lowest" j0) (h27:bG K "_law_ties_in" gW) (h28:bG K "_law_base" mP) (h29:bG K "_law_some_places" dZ) (h30:bG K "_law_share" mQ) (h31:bG K "_law_any_ring" fH) (h32:bG K "_law_layer" mR) (h33:bG K "_law_layer_takes" cQ) (h34:bG K "_law_layer_bound" d7) (h35:bG K "law" sO)
  (y_abs:BC K A9 "abs" = some none) (y_all:BC K A9 "all" = some none) (y_bool:BC K A9 "bool" = some none) (y_int:BC K A9 "int" = some none) (y_isinstance:BC K A9 "isinstance" = some none) (y_len:BC K A9 "len" = some none) (y_list:BC K A9 "list" = some none) (y_max:BC K A9 "max" = some none) (y_min:BC K A9 "min" = some none) (y_range:BC K A9 "range" = some none) (y_reversed:BC K A9 "reversed" = some none) (y_set:BC K A9 "set" = some none) (y_sorted:BC K A9 "sorted" = some none) (y_tuple:BC K A9 "tuple" = some none)
  {c_NOUGHT:Addr} (e_NOUGHT:BC K A9 "NOUGHT" = some (some (.ref c_NOUGHT)))
  {nd_:Option Addr} {sl_:Array (Option z9)} {t1_ t2_:Tok} {n_:Nat} (nlk:K.lookup c_NOUGHT=some ⟨.type "tuple",nd_,.seq #[.int 0 t1_,.int 1 t2_] n_,sl_⟩)
  : ∃fd:A3,(∀(s:Ac) (v:z9),BindsTo s fd ⟨[v],[]⟩ [("script",v)])/\∀base:Heap,K.In base->base.Ns A9 mg->a7 l.prog w K mg base CX0 7 fa fd ["script"] (oT K):=by
 obtain ⟨fl,od,an,sl,oc,kV,dc,pm,cd,ct,al,ll,cl,kl⟩:=h35
 have e:=hfa.symm.trans (ET X G al)
 cases e
 have F35:=tZ ll cl kl
 have z_abs:=Br X G y_abs
 have z_all:=Br X G y_all
 have z_bool:=Br X G y_bool
 have z_int:=Br X G y_int
 have z_isinstance:=Br X G y_isinstance
 have z_len:=Br X G y_len
 have z_list:=Br X G y_list
 have z_max:=Br X G y_max
 have z_min:=Br X G y_min
 have z_range:=Br X G y_range
 have z_reversed:=Br X G y_reversed
 have z_set:=Br X G y_set
 have z_sorted:=Br X G y_sorted
 have z_tuple:=Br X G y_tuple
 refine ⟨PySem.W.fnOf "law" "law" (bE sO) (ba sO) (ak sO) .none kV dc pm an cd ct,λs v =>.of_eq rfl,λbase kb nb =>?_⟩
 have B:Blt mg:=⟨z_abs,z_all,z_bool,z_int,z_isinstance,z_len,z_list,z_max,z_min,z_range,z_reversed,z_set,z_sorted,z_tuple⟩
 have x_NOUGHT:=ET X G e_NOUGHT
 have Z:Exs K mg c_NOUGHT:=⟨x_NOUGHT,λH=>SqT.lit nlk rfl rfl (by show 2<=Ao;decide) (.cons ⟨_,rfl⟩ (.cons ⟨_,rfl⟩ .nil))⟩
 have cLDeal:=h18.cal l.prog w base X G (λF=>w5 F B) λ_ _ _ _ _ _ us hl=>match us,hl with | [_,_],_=>rfl
 have cLTake:=h19.cal l.prog w base X G (λF=>w6 F B) λ_ _ _ _ _ _ us hl=>match us,hl with | [_,_],_=>rfl
 have cLWeb:=h21.cal l.prog w base X G (λF=>yW F B cLTake) λ_ _ _ _ _ _ us hl=>match us,hl with | [_,_,_],_=>rfl
 have cLWideWeb:=h22.cal l.prog w base X G (λF=>qd F B cLWeb cLTake) λ_ _ _ _ _ _ us hl=>match us,hl with | [_,_,_],_=>rfl
 have cLSomePlaces:=h29.cal l.prog w base X G (λF=>kF F B cLTake) λ_ _ _ _ _ _ us hl=>match us,hl with | [_,_],_=>rfl
 have cLPart:=h24.cal l.prog w base X G (λF=>w4 F B) λ_ _ _ _ _ _ us hl=>match us,hl with | [_,_],_=>rfl
 have cLLowest:=h26.cal l.prog w base X G (λF=>sS F B cLPart) λ_ _ _ _ _ _ us hl=>match us,hl with | [_,_],_=>rfl
 have cLBig:=h20.cal l.prog w base X G (λF=>yV F B cLTake) λ_ _ _ _ _ _ us hl=>match us,hl with | [_],_=>rfl
 have cLShare:=h30.cal l.prog w base X G (λF=>vi F B cLLowest cLTake cLBig) λ_ _ _ _ _ _ us hl=>match us,hl with | [_],_=>rfl
 have cLTiesIn:=h27.cal l.prog w base X G (λF=>sT F B) λ_ _ _ _ _ _ us hl=>match us,hl with | [_,_],_=>rfl
 have cLBase:=h28.cal l.prog w base X G (λF=>xh F B cLTiesIn) λ_ _ _ _ _ _ us hl=>match us,hl with | [_,_],_=>rfl
 have cNearLists:=h5.cal l.prog w base X G (λF=>wU F z_range z_set z_sorted) λ_ _ _ _ _ _ us hl=>match us,hl with | [_],_=>rfl
 have cShortestOf:=h12.cal l.prog w base X G (λF=>mX F B) λ_ _ _ _ _ _ us hl=>match us,hl with | [_],_=>rfl
 have cRingForm:=h9.cal l.prog w base X G (λF=>pZ F B) λ_ _ _ _ _ _ us hl=>match us,hl with | [_],_=>rfl
 have cWayAbout:=h10.cal l.prog w base X G (λF=>p8 F B) λ_ _ _ _ _ _ us hl=>match us,hl with | [_,_,_],_=>rfl
 have cTieOf:=h4.cal l.prog w base X G (λF=>zP F z_max z_min) λ_ _ _ _ _ _ us hl=>match us,hl with | [_,_],_=>rfl
 have cTiedTimes:=h6.cal l.prog w base X G (λF=>wZ F cTieOf) λ_ _ _ _ _ _ us hl=>match us,hl with | [_,_,_],_=>rfl
 have cRingAlong:=h11.cal l.prog w base X G (λF=>oI F B cWayAbout cTiedTimes) λ_ _ _ _ _ _ us hl=>match us,hl with | [_,_,_],_=>rfl
 have cLeastAlong:=h13.cal l.prog w base X G (λF=>mZ F B cNearLists cShortestOf cRingForm cRingAlong) λ_ _ _ _ _ _ us hl=>match us,hl with | [_,_],_=>rfl
 have cLeastRing:=h14.cal l.prog w base X G (λF=>oN F B cLeastAlong) λ_ _ _ _ _ _ us hl=>match us,hl with | [_],_=>rfl
 have cCutWeb:=h8.cal l.prog w base X G (λF=>zS F B) λ_ _ _ _ _ _ us hl=>match us,hl with | [_,_],_=>rfl
 have cLAnyRing:=h31.cal l.prog w base X G (λF=>qe F B cLTiesIn cLTake) λ_ _ _ _ _ _ us hl=>match us,hl with | [_,_,_],_=>rfl
 have cLLayer:=h32.cal l.prog w base X G (λF=>vw F B cLSomePlaces cLShare cLBase cLTake cLeastRing cCutWeb cRingForm cLAnyRing) λ_ _ _ _ _ _ us hl=>match us,hl with | [_,_],_=>rfl
 have cLLayerTakes:=h33.cal l.prog w base X G (λF=>kG F B cLTiesIn cLLowest) λ_ _ _ _ _ _ us hl=>match us,hl with | [_,_],_=>rfl
 have cCommonDivisor:=h1.cal l.prog w base X G (λF=>iX F B) λ_ _ _ _ _ _ us hl=>match us,hl with | [_,_],_=>rfl
 obtain ⟨cRatioOf,cRatioOfD⟩:=h2.cals l.prog w base X G (λF=>sR F B cCommonDivisor) (ps:=["top", "bottom"]) (λT kV doc pm an td cdv ct tc tt tn ts dd=>⟨λs us kin hl=>by
  rw[AU] at hl ⊢
  match us,hl with
  | [_,_],_=>exact Hz kin rfl dd rfl rfl rfl,λs us kin hl=>by
  have h1:us.length=1:=by
   rw[Ae] at hl
   have e:us.length+1=2:=hl
   omega
  match us,h1 with
  | [_],_=>exact Hz kin rfl dd rfl rfl rfl⟩)
 have cRatioTimes:=h3.cal l.prog w base X G (λF=>m9 F B cRatioOf) λ_ _ _ _ _ _ us hl=>match us,hl with | [_,_],_=>rfl
 have cTiesWithin:=h7.cal l.prog w base X G (λF=>nq F B) λ_ _ _ _ _ _ us hl=>match us,hl with | [_,_],_=>rfl
 have cLayerBound:=h17.cal l.prog w base X G (λF=>nz F B cRatioTimes cRatioOfD cTiesWithin) λ_ _ _ _ _ _ us hl=>match us,hl with | [_,_],_=>rfl
 have cTiesAmong:=h15.cal l.prog w base X G (λF=>oS F B) λ_ _ _ _ _ _ us hl=>match us,hl with | [_,_],_=>rfl
 have cLayerTakes:=h16.cal l.prog w base X G (λF=>nr Z F B cTiesAmong cRatioTimes cRatioOfD) λ_ _ _ _ _ _ us hl=>match us,hl with | [_,_],_=>rfl
 have cLWhole:=h23.cal l.prog w base X G (λF=>ve F B) λ_ _ _ _ _ _ us hl=>match us,hl with | [_],_=>rfl
 have cLIsRatio:=h25.cal l.prog w base X G (λF=>qa F B cLWhole cLPart) λ_ _ _ _ _ _ us hl=>match us,hl with | [_],_=>rfl
 have cLLayerBound:=h34.cal l.prog w base X G (λF=>kI F B cLLowest) λ_ _ _ _ _ _ us hl=>match us,hl with | [_,_],_=>rfl
 exact zX F35 B cLDeal cLWideWeb cLLayer cLLayerTakes cLayerBound cLayerTakes cLIsRatio cLLayerBound
theorem walk {l:PySem.W.OpenLaw}{q:Au}{loose:List Str}{XP:(Str->Option z9)->Heap->Prop}{YP:AV->Heap->Prop}{d:DefRec}{K:Params->z8}(hn:l.most=some 63)(hdf:d.params.defaults=[])
  (hY:∀(w:AV) (h:Heap),YP w h->(K w.params).In h)
  (F:∀(w:AV) (mg:Str->Option z9) (fa:Addr) (h:Heap),(K w.params).In h->h.Ns A9 mg->mg d.name=some (.ref fa) →
   ∃fd:A3,(∀(s:Ac) (u:z9),BindsTo s fd ⟨[u],[]⟩ [("script",u)])/\∀base:Heap,(K w.params).In base->base.Ns A9 mg->a7 l.prog w (K w.params) mg base CX0 7 fa fd ["script"] (oT (K w.params))) :
  PySem.W.WalkO q loose XP YP l.row.toRowW d [] (λf vs=>PySem.call f vs) :=
 L2.vQ (n:=63) (k:=7) (x := "script") (CX:=λ_=>CX0) (sp:=λw=>oT (K w.params)) hn (by decide) hdf ⟨rfl,by decide,by decide⟩ hY F (λ_ _ a ns hl _ hS=>⟨a,ns,rfl,hS,hl,λ_=>rfl⟩) λ_ _ _ _ _ z=>z
end K38
def PySem.W.Fast.tw2544985109172283626:Nat:=0
def PySem.W.Fast.tw18223609852130449842:Nat:=0
def PySem.W.Fast.tw10786122765285105268:Nat:=0
def PySem.W.Fast.tw13270190589535987776:Nat:=0
def PySem.W.Fast.tw7344862146670999679:Nat:=0
def PySem.W.Fast.tw7243878549968314038:Nat:=0
def PySem.W.Fast.tw17317179932205339717:Nat:=0
def PySem.W.Fast.tw1590692259107121268:Nat:=0
def PySem.W.Fast.tw4176296499961911108:Nat:=0
def PySem.W.Fast.tw8457151593097160335:Nat:=0
def PySem.W.Fast.tw17073490174278748026:Nat:=0
def PySem.W.Fast.tw1793354404002221452:Nat:=0
def PySem.W.Fast.tw7767777825878884432:Nat:=0
def PySem.W.Fast.tw8875232652910757552:Nat:=0
def PySem.W.Fast.tw6422211058843928643:Nat:=0
def PySem.W.Fast.tw10995111479027754655:Nat:=0
def PySem.W.Fast.tw8395531111114675413:Nat:=0
def PySem.W.Fast.tw4363752643452146874:Nat:=0
def PySem.W.Fast.tw3334220081725308840:Nat:=0
def PySem.W.Fast.tw3398896977684360921:Nat:=0
def PySem.W.Fast.tw1088257641535279000:Nat:=0
def PySem.W.Fast.tw12951550093868764599:Nat:=0
def PySem.W.Fast.tw10103065733062373744:Nat:=0
def PySem.W.Fast.tw50763609098923071:Nat:=0
def PySem.W.Fast.tw6648829463263959385:Nat:=0
def PySem.W.Fast.tw8248717143607461771:Nat:=0
def PySem.W.Fast.tw17818859743809598911:Nat:=0
def PySem.W.Fast.tw358726498520247013:Nat:=0
def PySem.W.Fast.tw574931998820851008:Nat:=0
def PySem.W.Fast.tw8081312249423904817:Nat:=0
def PySem.W.Fast.tw4384781860125271137:Nat:=0
def PySem.W.Fast.tw5481436391926907417:Nat:=0
def PySem.W.Fast.tw18273395836164561460:Nat:=0
def PySem.W.Fast.tw4810005295300524122:Nat:=0
def PySem.W.Fast.tw67087853270723921:Nat:=0
def PySem.W.Fast.tw16950152974164546714:Nat:=0
def PySem.W.Fast.tw10947647700341334837:Nat:=0
def PySem.W.Fast.tw7312954692153792524:Nat:=0
def PySem.W.Fast.tw17353605526309384957:Nat:=0
def PySem.W.Fast.tw1128821207941459236:Nat:=0
def PySem.W.Fast.tw16196154015943524665:Nat:=0
def PySem.W.Fast.tw12345828248160924444:Nat:=0
def PySem.W.Fast.tw1826428461948135779:Nat:=0
def PySem.W.Fast.tw9010962424302043490:Nat:=0
def PySem.W.Fast.tw14325656323736115887:Nat:=0
def PySem.W.Fast.tw14372047216493497411:Nat:=0
def PySem.W.Fast.tw5653927185131727264:Nat:=0
def PySem.W.Fast.tw10925797779163576077:Nat:=0
def PySem.W.Fast.tw4002651774519626742:Nat:=0
def PySem.W.Fast.tw4030869904320614105:Nat:=0
def PySem.W.Fast.tw15295391924212770913:Nat:=0
def PySem.W.Fast.tw8256241931492304872:Nat:=0
def PySem.W.Fast.tw1914742575377963109:Nat:=0
def PySem.W.Fast.tw11118950441744733659:Nat:=0
def PySem.W.Fast.tw866503365301261121:Nat:=0
def PySem.W.Fast.tw2909858165056834562:Nat:=0
def PySem.W.Fast.tw14558051058946171709:Nat:=0
def PySem.W.Fast.tw898359570203645150:Nat:=0
def PySem.W.Fast.tw9770251388710152356:Nat:=0
def PySem.W.Fast.tw2967650202447678163:Nat:=0
def PySem.W.Fast.tw1989406823446274810:Nat:=0
def PySem.W.Fast.tw13827514245970858168:Nat:=0
def PySem.W.Fast.tw12043831739946800982:Nat:=0
def PySem.W.Fast.tw8382954329973850903:Nat:=0
def PySem.W.Fast.tw13648818379577295754:Nat:=0
def PySem.W.Fast.tw2362107065438538424:Nat:=0
def PySem.W.Fast.tw17010809235676647552:Nat:=0
def PySem.W.Fast.tw7778875902000275542:Nat:=0
def PySem.W.Fast.tw11724308651909783931:Nat:=0
def PySem.W.Fast.tw6115848028416738332:Nat:=0
def PySem.W.Fast.tw6637792116976622187:Nat:=0
def PySem.W.Fast.tw17862738067270913161:Nat:=0
def PySem.W.Fast.tw5537954279644704511:Nat:=0
def PySem.W.Fast.tw9803085892217258457:Nat:=0
def PySem.W.Fast.tw2034228907494531257:Nat:=0
def PySem.W.Fast.tw11150858030948280795:Nat:=0
def PySem.W.Fast.tw13150752366943119673:Nat:=0
def PySem.W.Fast.tw17513014361177673940:Nat:=0
def PySem.W.Fast.tw7459314927570901060:Nat:=0
def PySem.W.Fast.tw7955524988762031984:Nat:=0
def PySem.W.Fast.tw12721373059561054127:Nat:=0
def PySem.W.Fast.tw1827193822943533858:Nat:=0
def PySem.W.Fast.tw8949312094724245023:Nat:=0
def PySem.W.Fast.tw5352653788646401666:Nat:=0
def PySem.W.Fast.tw7345275201310994034:Nat:=0
def PySem.W.Fast.tw9194341330755758481:Nat:=0
def PySem.W.Fast.tw15620043271057793925:Nat:=0
def PySem.W.Fast.tw1431770213197851848:Nat:=0
def PySem.W.Fast.tw416547242065007667:Nat:=0
def PySem.W.Fast.tw15270203715922909794:Nat:=0
def PySem.W.Fast.tw11309602048967530634:Nat:=0
def PySem.W.Fast.tw3782500563531390227:Nat:=0
def PySem.W.Fast.tw13899096425653562049:Nat:=0
def PySem.W.Fast.tw11387777567012571721:Nat:=0
def PySem.W.Fast.tw10767884847972569243:Nat:=0
def PySem.W.Fast.tw10917035525140059889:Nat:=0
def PySem.W.Fast.tw959233949853014331:Nat:=0
def PySem.W.Fast.tw16415354269270142336:Nat:=0
def PySem.W.Fast.tw17724189743718452412:Nat:=0
def PySem.W.Fast.tw13959762207316247750:Nat:=0
def PySem.W.Fast.tw4110303288749644884:Nat:=0
def PySem.W.Fast.tw10822217267633042209:Nat:=0
def PySem.W.Fast.tw14943926211920530670:Nat:=0
def PySem.W.Fast.tw16798898092090741080:Nat:=0
def PySem.W.Fast.tw15271903662789711705:Nat:=0
def PySem.W.Fast.tw12989103727047302584:Nat:=0
def PySem.W.Fast.tw4110767568342595646:Nat:=0
def PySem.W.Fast.tw16227473916662049382:Nat:=0
def PySem.W.Fast.tw8128770629108924463:Nat:=0
def PySem.W.Fast.tw9787058524799152534:Nat:=0
def PySem.W.Fast.tw15906184297002263839:Nat:=0
def PySem.W.Fast.tw9852053092552864953:Nat:=0
def PySem.W.Fast.tw4589173722642368188:Nat:=0
def PySem.W.Fast.tw297206314939846181:Nat:=0
def PySem.W.Fast.tw4800011739099094271:Nat:=0
def PySem.W.Fast.tw3815517415653560184:Nat:=0
def PySem.W.Fast.tw3541829557194793998:Nat:=0
def PySem.W.Fast.tw6326780246696566447:Nat:=0
def PySem.W.Fast.tw15472613735353255077:Nat:=0
def PySem.W.Fast.tw497135490988935976:Nat:=0
def PySem.W.Fast.tw15859924463559563380:Nat:=0
def PySem.W.Fast.tw3819815845886762904:Nat:=0
def PySem.W.Fast.tw8250608615651547685:Nat:=0
def PySem.W.Fast.tw16564861929362939717:Nat:=0
def PySem.W.Fast.tw209492453329027014:Nat:=0
def PySem.W.Fast.tw1752247067081448064:Nat:=0
def PySem.W.Fast.tw6803311382450088639:Nat:=0
open PySem PySem.W PyProof.Rows
set_option maxRecDepth 100000 in
set_option maxHeartbeats 0 in
theorem PySem.Challenge.cw_ringfell_k38_what_layers_take_holds : PySem.Challenge.rw_ringfell_k38_what_layers_take.Holds := by
 w_on;o_law;k_head;(case hw=>w_witness2)
 k_fill
 refine K38.walk (l:=PySem.Challenge.rw_ringfell_k38_what_layers_take) rfl rfl (λw h Y=>PySem.W.kIn_of Y) ?F
 case F =>
  intro w mg fa h KX G hmg
  refine' K38.all_mk KX G hmg ?_ ?_ ?_ ?_ ?_ ?_ ?_ ?_ ?_ ?_ ?_ ?_ ?_ ?_ ?_ ?_ ?_ ?_ ?_ ?_ ?_ ?_ ?_ ?_ ?_ ?_ ?_ ?_ ?_ ?_ ?_ ?_ ?_ ?_ ?_ ?_ ?_ ?_ ?_ ?_ ?_ ?_ ?_ ?_ ?_ ?_ ?_ ?_ ?_ ?_ ?_
  any_goals k_is
  any_goals (refine' L2.sN.mk ?a ?l ?c ?k ?t;(case a=>k_is);(case l=>k_is);(case c=>k_is);(case k=>k_is);(case t=>k_is))
  any_goals (refine' L2.bG.mk ?a ?l ?c ?k;(case a=>k_is);(case l=>k_is);(case c=>k_is);(case k=>k_is))
  all_goals kernel_rfl
