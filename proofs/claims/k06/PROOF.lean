import PyProof.Rows.All
import Wide.All
import OpenK.AllK
import Wide.FinOn
import Lean
import PyProof.EqAt
import PyProof.EqKinds
import PyProof.TupleCall
import PyProof.NeKinds
import PyProof.SliceStr2
import KE.KDictList
import PyProof.CollectIter
import PyProof.EnumFor
import PyProof.EnumMake
import PyProof.LayNew
import PySem.Str
import PyProof.Rows.RegStrFacts
import PyProof.StrLawsRepr
import PySem.Challenge.RW_patchkin_k06_what_a_patch_leans_on
set_option Elab.async false
set_option linter.all false
set_option maxRecDepth 100000
set_option maxHeartbeats 0
theorem RK:type_of% @List.length_map:=@List.length_map
theorem RO:type_of% @List.getElem?_eq_some_iff:=@List.getElem?_eq_some_iff
theorem UP:type_of% @PySem.wpAny_bind:=@PySem.wpAny_bind
theorem US:type_of% @List.mem_singleton:=@List.mem_singleton
theorem UZ:type_of% @List.length_append:=@List.length_append
theorem U0:type_of% @Nat.le_refl:=@Nat.le_refl
theorem VI:type_of% @List.mem_of_getElem?:=@List.mem_of_getElem?
theorem VN:type_of% @List.getElem?_eq_getElem:=@List.getElem?_eq_getElem
theorem XU:type_of% @decide_eq_true:=@decide_eq_true
theorem XW:type_of% @List.mem_cons:=@List.mem_cons
theorem XX:type_of% @List.mem_append:=@List.mem_append
theorem XZ:type_of% @List.filter_cons_of_pos:=@List.filter_cons_of_pos
theorem aaa:type_of% @List.mem_map_of_mem:=@List.mem_map_of_mem
theorem aab:type_of% @PySem.wpAny_pure:=@PySem.wpAny_pure
theorem aac:type_of% @PySem.Heap.get?_push_of_some:=@PySem.Heap.get?_push_of_some
theorem aad:type_of% @Nat.le_trans:=@Nat.le_trans
theorem aae:type_of% @List.length_cons:=@List.length_cons
theorem aaf:type_of% @List.take_length:=@List.take_length
theorem aag:type_of% @List.size_toArray:=@List.size_toArray
theorem aah:type_of% @decide_eq_false:=@decide_eq_false
theorem aai:type_of% @Bool.false_ne_true:=@Bool.false_ne_true
theorem aaj:type_of% @List.filter_cons_of_neg:=@List.filter_cons_of_neg
theorem aak:type_of% @List.getElem?_map:=@List.getElem?_map
theorem aal:type_of% @List.mem_cons_of_mem:=@List.mem_cons_of_mem
theorem aam:type_of% @PySem.W.mg_of:=@PySem.W.mg_of
theorem aan:type_of% @if_neg:=@if_neg
theorem aao:type_of% @PySem.Paired.length:=@PySem.Paired.length
theorem aap:type_of% @List.length_take:=@List.length_take
theorem aaq:type_of% @List.mem_filter:=@List.mem_filter
theorem aar:type_of% @PySem.PassesOwn.never:=@PySem.PassesOwn.never
theorem aas:type_of% @if_pos:=@if_pos
theorem aat:type_of% @List.mem_append_left:=@List.mem_append_left
theorem aau:type_of% @List.map_append:=@List.map_append
theorem aav:type_of% @List.mem_cons_self:=@List.mem_cons_self
theorem aaw:type_of% @List.map_cons:=@List.map_cons
theorem aax:type_of% @PySem.Heap.lt_size:=@PySem.Heap.lt_size
theorem aay:type_of% @PySem.boot_len:=@PySem.boot_len
theorem aaz:type_of% @PySem.Heap.get?_push_size:=@PySem.Heap.get?_push_size
theorem aaA:type_of% @List.flatMap_cons:=@List.flatMap_cons
theorem aaB:type_of% @of_decide_eq_true:=@of_decide_eq_true
theorem aaC:type_of% @PySem.sizeLine_eq:=@PySem.sizeLine_eq
theorem aaD:type_of% @Option.some.inj:=@Option.some.inj
theorem aaE:type_of% @Nat.lt_of_lt_of_le:=@Nat.lt_of_lt_of_le
theorem aaF:type_of% @Option.map_eq_some_iff:=@Option.map_eq_some_iff
theorem aaG:type_of% @List.Sublist.refl:=@List.Sublist.refl
theorem aaH:type_of% @List.mem_map:=@List.mem_map
theorem aaI:type_of% @List.length_filter_le:=@List.length_filter_le
theorem aaJ:type_of% @PySem.F.plainAttrs_list:=@PySem.F.plainAttrs_list
theorem aaK:type_of% @Nat.zero_le:=@Nat.zero_le
theorem aaL:type_of% @List.mem_append_right:=@List.mem_append_right
theorem aaM:type_of% @List.filter_append:=@List.filter_append
theorem aaN:type_of% @List.append_nil:=@List.append_nil
theorem aaO:type_of% @List.length_eq_zero_iff:=@List.length_eq_zero_iff
theorem aaP:type_of% @List.mem_iff_getElem?:=@List.mem_iff_getElem?
theorem aaQ:type_of% @PySem.F.slot_list_append:=@PySem.F.slot_list_append
theorem aaR:type_of% @PySem.F.type_list_append:=@PySem.F.type_list_append
theorem aaS:type_of% @List.append_assoc:=@List.append_assoc
theorem aaT:type_of% @List.drop_eq_getElem_cons:=@List.drop_eq_getElem_cons
theorem aaU:type_of% @List.filter_nil:=@List.filter_nil
theorem aaV:type_of% @List.filter_sublist:=@List.filter_sublist
theorem aaW:type_of% @Nat.ne_of_lt:=@Nat.ne_of_lt
theorem aaX:type_of% @List.nodup_cons:=@List.nodup_cons
theorem aaY:type_of% @Array.getElem?_eq_getElem:=@Array.getElem?_eq_getElem
theorem aaZ:type_of% @Bool.and_eq_true:=@Bool.and_eq_true
theorem aa0:type_of% @PyProof.Rows.callWith_type1:=@PyProof.Rows.callWith_type1
theorem aa1:type_of% @List.flatMap_append:=@List.flatMap_append
theorem aa2:type_of% @List.nodup_append:=@List.nodup_append
theorem aa3:type_of% @Bool.false_eq_true:=@Bool.false_eq_true
theorem aa4:type_of% @List.sublist_append_right:=@List.sublist_append_right
theorem aa5:type_of% @congrArg:=@congrArg
theorem aa6:type_of% @List.mem_flatMap:=@List.mem_flatMap
theorem aa7:type_of% @PySem.W.mg_none_of:=@PySem.W.mg_none_of
theorem aa8:type_of% @Array.getElem?_toList:=@Array.getElem?_toList
theorem aa9:type_of% @Array.length_toList:=@Array.length_toList
theorem aa_:type_of% @PySem.Heap.get?_update_self:=@PySem.Heap.get?_update_self
theorem aba:type_of% @List.replicate_succ:=@List.replicate_succ
theorem abb:type_of% @List.nodup_nil:=@List.nodup_nil
theorem abc:type_of% @Bool.eq_false_iff:=@Bool.eq_false_iff
theorem abd:type_of% @PySem.wpAny_dictEntries:=@PySem.wpAny_dictEntries
theorem abe:type_of% @List.getElem?_append_right:=@List.getElem?_append_right
theorem abf:type_of% @PySem.Calls.spliced_cons:=@PySem.Calls.spliced_cons
theorem abg:type_of% @List.getElem?_set_self:=@List.getElem?_set_self
theorem abh:type_of% @PySem.Calls.callWith_builtin:=@PySem.Calls.callWith_builtin
theorem abi:type_of% @PySem.W.kia_one:=@PySem.W.kia_one
theorem abj:type_of% @List.length_reverse:=@List.length_reverse
theorem abk:type_of% @PySem.Heap.SameBut.update:=@PySem.Heap.SameBut.update
theorem abl:type_of% @PySem.F.slot_dict_keyiterator_next:=@PySem.F.slot_dict_keyiterator_next
theorem abm:type_of% @Nat.lt_irrefl:=@Nat.lt_irrefl
theorem abn:type_of% @Nat.lt_of_le_of_lt:=@Nat.lt_of_le_of_lt
theorem abo:type_of% @List.getElem?_set_ne:=@List.getElem?_set_ne
theorem abp:type_of% @PySem.wpAny_mono:=@PySem.wpAny_mono
theorem abq:type_of% @PySem.Calls.evalArgs_plain:=@PySem.Calls.evalArgs_plain
theorem abr:type_of% @List.flatMap_nil:=@List.flatMap_nil
theorem abt:type_of% @List.sublist_cons_self:=@List.sublist_cons_self
theorem abu:type_of% @List.filterMap_cons:=@List.filterMap_cons
theorem abv:type_of% @PySem.Calls.spliced_nil:=@PySem.Calls.spliced_nil
theorem abw:type_of% @PySem.mem_of_lookup:=@PySem.mem_of_lookup
theorem abx:type_of% @PySem.wpAny_newObj_type:=@PySem.wpAny_newObj_type
theorem aby:type_of% @List.getElem?_eq_none_iff:=@List.getElem?_eq_none_iff
theorem abz:type_of% @List.take_zero:=@List.take_zero
theorem abA:type_of% @Bool.eq_iff_iff:=@Bool.eq_iff_iff
theorem abB:type_of% @List.take_append_drop:=@List.take_append_drop
theorem abC:type_of% @PySem.tupleKind_room_in1:=@PySem.tupleKind_room_in1
theorem abD:type_of% @List.getElem?_take:=@List.getElem?_take
theorem abE:type_of% @List.not_mem_nil:=@List.not_mem_nil
theorem abF:type_of% @PySem.wpAny_typeNameOfWhole_keyiter:=@PySem.wpAny_typeNameOfWhole_keyiter
theorem abG:type_of% @PySem.wpAny_holding:=@PySem.wpAny_holding
theorem abH:type_of% @PySem.F.plainAttrs_dict:=@PySem.F.plainAttrs_dict
theorem abI:type_of% @decide_eq_true_eq:=@decide_eq_true_eq
theorem abJ:type_of% @List.getElem?_inj:=@List.getElem?_inj
theorem abK:type_of% @beq_eq_false_iff_ne:=@beq_eq_false_iff_ne
theorem abL:type_of% @PySem.Heap.get?_update_other:=@PySem.Heap.get?_update_other
theorem abM:type_of% @PyProof.Rows.boot_list:=@PyProof.Rows.boot_list
theorem abN:type_of% @PySem.wpAny_call_entry:=@PySem.wpAny_call_entry
theorem abO:type_of% @List.all_eq_true:=@List.all_eq_true
theorem abP:type_of% @List.filterMap_append:=@List.filterMap_append
theorem abQ:type_of% @Ne.symm:=@Ne.symm
theorem abR:type_of% @List.getElem?_append_left:=@List.getElem?_append_left
theorem abS:type_of% @List.pairwise_iff_getElem:=@List.pairwise_iff_getElem
theorem abT:type_of% @List.mem_of_mem_take:=@List.mem_of_mem_take
theorem abU:type_of% @PySem.wpAny_truthy_bool:=@PySem.wpAny_truthy_bool
theorem abV:type_of% @PySem.wpAny_passesOwn:=@PySem.wpAny_passesOwn
theorem abW:type_of% @Int.toNat_natCast:=@Int.toNat_natCast
theorem abX:type_of% @List.flatten_cons:=@List.flatten_cons
theorem abY:type_of% @PySem.F.slot_dict_update:=@PySem.F.slot_dict_update
theorem abZ:type_of% @if_false:=@if_false
theorem ab0:type_of% @List.map_congr_left:=@List.map_congr_left
theorem ab1:type_of% @List.lookup_cons:=@List.lookup_cons
theorem ab3:type_of% @beq_iff_eq:=@beq_iff_eq
theorem ab4:type_of% @List.mem_filterMap:=@List.mem_filterMap
theorem ab5:type_of% @List.getElem?_drop:=@List.getElem?_drop
theorem ab6:type_of% @List.Nodup.sublist:=@List.Nodup.sublist
theorem ab7:type_of% @Sum.inr.inj:=@Sum.inr.inj
theorem ab8:type_of% @List.find?_cons:=@List.find?_cons
theorem ab9:type_of% @Option.map_some:=@Option.map_some
theorem ab_:type_of% @PySem.F.slot_dict_pop:=@PySem.F.slot_dict_pop
theorem aca:type_of% @PySem.wpAny_specialOf:=@PySem.wpAny_specialOf
theorem acb:type_of% @PySem.wpAny_ite_split:=@PySem.wpAny_ite_split
theorem acd:type_of% @PySem.size_of_entries:=@PySem.size_of_entries
theorem ace:type_of% @List.take_sublist:=@List.take_sublist
theorem acf:type_of% @List.length_range:=@List.length_range
theorem acg:type_of% @List.mem_range:=@List.mem_range
theorem ach:type_of% @Nat.lt_succ_self:=@Nat.lt_succ_self
theorem aci:type_of% @List.range'_succ:=@List.range'_succ
theorem acj:type_of% @List.drop_length:=@List.drop_length
theorem ack:type_of% @List.length_set:=@List.length_set
theorem acm:type_of% @Bool.or_eq_true:=@Bool.or_eq_true
abbrev Qqq:=PySem.Value→PySem.Shared→Prop
abbrev Qqz:=List (PySem.Addr×PySem.Obj)
abbrev Qqx:=PySem.Str→Option PySem.Value
abbrev Qqy:=PySem.W.Frag
namespace L2
open PySem PySem.Spec PyProof.Rows
abbrev Key:=Sum Int Str
noncomputable def yQ:Key→Value→Bool
 | .inl k,v=>Value.isInt k v
 | .inr x,v=>Value.isStrOf x v
noncomputable def Ua(w:World):Key→Int
 | .inl k=>hashInt k
 | .inr x=>hashStr w x
theorem jt:∀{k:Key} {v:Value},yQ k v=true→(∃i t,k=Sum.inl i∧v=Value.int i t)∨(∃x t,k=Sum.inr x∧v=Value.str x t)
 | .inl i,v,h=>by
  obtain⟨t,e⟩:=Value.isInt_shape (k:=i) (v:=v) h
  exact .inl ⟨i,t,rfl,e⟩
 | .inr x,v,h=>by
  obtain⟨t,e⟩:=Value.isStrOf_shape (x:=x) (v:=v) h
  exact .inr ⟨x,t,rfl,e⟩
theorem GW(i:Int)(t:Tok):yQ (.inl i) (.int i t)=true:=by simp[yQ,Value.isInt]
theorem GX(x:Str)(t:Tok):yQ (.inr x) (.str x t)=true:=by simp[yQ,Value.isStrOf]
theorem MS(a b:Int):decide ((Sum.inl a:Key)=Sum.inl b)=(a ==b):=by
 by_cases e:a=b
 ·subst e;simp
 ·have h:¬(Sum.inl a:Key)=Sum.inl b:=fun q=>e (Sum.inl.inj q)
  rw[aah h]
  exact(abK.mpr e).symm
theorem MT(a b:Str):decide ((Sum.inr a:Key)=Sum.inr b)=decide (a=b):=by
 by_cases e:a=b
 ·subst e;simp
 ·have h:¬(Sum.inr a:Key)=Sum.inr b:=fun q=>e (ab7 q)
  rw[aah h,aah e]
theorem MU(a:Int)(b:Str):decide ((Sum.inl a:Key)=Sum.inr b)=false:=aah (fun q=>nomatch q)
theorem MV(a:Str)(b:Int):decide ((Sum.inr a:Key)=Sum.inl b)=false:=aah (fun q=>nomatch q)
noncomputable def jb(prog:Program)(w:World):PySem.KeyKind prog w Key where
 is:=yQ
 hash:=Ua w
 inj:=fun v a b ha hb=>by
  rcases jt ha with⟨i,t,rfl,rfl⟩|⟨x,t,rfl,rfl⟩
  ·rcases jt hb with⟨j,u,rfl,e⟩|⟨y,u,rfl,e⟩
   ·injection e with e1 _;rw[e1]
   ·exact nomatch e
  ·rcases jt hb with⟨j,u,rfl,e⟩|⟨y,u,rfl,e⟩
   ·exact nomatch e
   ·injection e with e1 _;rw[e1]
 byValue:=fun k v h=>by
  rcases jt h with⟨i,t,rfl,rfl⟩|⟨x,t,rfl,rfl⟩<;>rfl
 pyHash:=fun hv h=>by
  rcases jt hv with⟨i,t,rfl,rfl⟩|⟨x,t,rfl,rfl⟩
  ·exact wpAny_pyHash_int h
  ·exact wpAny_pyHash_str h
 eqBool:=fun hu hv h=>by
  rcases jt hu with⟨i,t,rfl,rfl⟩|⟨x,t,rfl,rfl⟩
  ·rcases jt hv with⟨j,u,rfl,rfl⟩|⟨y,u,rfl,rfl⟩
   ·rw[MS] at h;exact wpAny_eqBool_int h
   ·rw[MU] at h;exact SeqAt.EqAt.int_str i t y u _ _ _ _ h
  ·rcases jt hv with⟨j,u,rfl,rfl⟩|⟨y,u,rfl,rfl⟩
   ·rw[MV] at h;exact SeqAt.EqAt.str_int x t j u _ _ _ _ h
   ·rw[MT] at h;exact wpAny_eqBool_str h
 «strs»:=fun k x t v h=>by
  rcases jt h with⟨i,u,rfl,e⟩|⟨y,u,rfl,e⟩
  ·exact nomatch e
  ·injection e with e1 _
   subst e1
   cases v<;>rfl
theorem C6(prog:Program)(w:World)(i:Int)(t:Tok):(jb prog w).is (.inl i) (.int i t)=true:=GW i t
theorem C7(prog:Program)(w:World)(x:Str)(t:Tok):(jb prog w).is (.inr x) (.str x t)=true:=GX x t
inductive V where
 | jn|bl (b:Bool)|int (i:Int)|str (x:Str)|ES (b:Array UInt8)|L8 (b:UInt64)|ref (a:Addr)|ty (n:String)
 deriving DecidableEq
def RelV:V→Value→Prop
 | .jn,u=>u=Value.none
 | .bl b,u=>u=Value.bool b
 | .int i,u=>∃t,u=Value.int i t
 | .str x,u=>∃t,u=Value.str x t
 | .ES b,u=>∃t,u=Value.bytes b t
 | .L8 b,u=>∃t,u=Value.float b t
 | .ref a,u=>u=Value.ref a
 | .ty n,u=>u=Value.type n
abbrev Vals:List V→List Value→Prop:=Paired RelV
theorem Vals.length{xs:List V}{us:List Value}(r:Vals xs us):xs.length=us.length:=aao r
theorem Vals.get:∀{xs:List V} {us:List Value} {i:Nat} {x:V},Vals xs us→xs[i]?=some x→∃u,us[i]?=some u∧RelV x u
 | _,_,_,_,.nil,e=>by simp at e
 | _,_,0,_,.cons r _,e=>by simp at e;subst e;exact⟨_,rfl,r⟩
 | _,_,i+1,x,.cons _ t,e=>by
  obtain⟨u,h1,h2⟩:=Vals.get (i:=i) (x:=x) t (by simpa using e)
  exact⟨u,by simpa using h1,h2⟩
theorem Vals.set{x:V}{u:Value}(r:RelV x u):∀{xs:List V} {us:List Value} (i:Nat),Vals xs us→Vals (xs.set i x) (us.set i u)
 | _,_,_,.nil=>.nil
 | _,_,0,.cons _ t=>.cons r t
 | _,_,i+1,.cons q t=>.cons q (Vals.set r i t)
theorem Vals.append:∀{xs ys:List V} {us ws:List Value},Vals xs us→Vals ys ws→Vals (xs++ys) (us++ws)
 | _,_,_,_,.nil,s=>s
 | _,_,_,_,.cons r t,s=>.cons r (Vals.append t s)
theorem Vals.take:∀{xs:List V} {us:List Value} (n:Nat),Vals xs us→Vals (xs.take n) (us.take n)
 | _,_,0,_=>.nil
 | _,_,_+1,.nil=>.nil
 | _,_,n+1,.cons r t=>.cons r (Vals.take n t)
theorem Vals.drop:∀{xs:List V} {us:List Value} (n:Nat),Vals xs us→Vals (xs.drop n) (us.drop n)
 | _,_,0,r=>r
 | _,_,_+1,.nil=>.nil
 | _,_,n+1,.cons _ t=>Vals.drop n t
def pq:Option V→Option Value→Prop
 | some v,some u=>RelV v u
 | none,none=>True
 | _,_=>False
def KV{κ:Type}:List (κ×V)→List (κ×Value)→Prop:=Paired fun(p:κ×V) (q:κ×Value)=>p.1=q.1∧RelV p.2 q.2
noncomputable def kV:Key→V
 | .inl i=>.int i
 | .inr x=>.str x
inductive HO where
 | lst (xs:List V)
 | tup (xs:List V)
 | dK (kvs:List (Key×V))|dT (kvs:List (List Key×V))
 | set (S:Int→Bool) (n:Nat)
 | ins (C dx:Addr) (fs:List (Str×V))
 | own (x:Addr)
 | xd (fs:List (Str×V))
 | met (f x:Addr)
 | SW (lo hi:Int)
 | mQ (o:Obj) (u:HO)
 | Ko (ps:Array Value)
 | ext (φ:Heap→Prop)
abbrev Hp:=Addr→Option HO
noncomputable def upd(H:Hp)(a:Addr)(o:HO):Hp:=fun b=>if b=a then some o else H b
theorem b_{H:Hp}{a:Addr}{o:HO}:upd H a o a=some o:=by unfold upd;rw[aas rfl]
theorem d_{H:Hp}{a b:Addr}{o:HO}(h:b≠a):upd H a o b=H b:=by unfold upd;rw[aan h]
theorem KA{H:Hp}{a:Addr}{o u:HO}:upd (upd H a o) a u=upd H a u:=by
 funext b;unfold upd;split<;>rfl
theorem i9{H:Hp}{a b:Addr}{o u:HO}(h:H a=some o)(h':H b=some u)(d:o≠u):a≠b:=by
 intro e;subst e;rw[h] at h';exact d (aaD h')
theorem gb{H:Hp}{a b:Addr}{o:HO}(h:H a=some o)(h':H b=none):a≠b:=by
 intro e;subst e;rw[h] at h';cases h'
section
variable(P:Program)(w:World)
noncomputable def i5(H:Hp)(h:Heap)(a:Addr):HO→Prop
 | .lst xs=>xs.length≤sizeLine∧∃(hX:List Value)(n:Nat),Vals xs hX∧h.get? a=some {cls:=.type "list",data:=.seq hX.toArray n}
 | .tup xs=>xs.length≤sizeLine∧∃hX:List Value,Vals xs hX∧IsTup h a hX.toArray
 | .dK kvs=>kvs.length≤sizeLine∧(a ==sysModules)=false∧∃vs,KV kvs vs∧h.DictOf (jb P w) a vs
 | .dT kvs=>kvs.length≤sizeLine∧(a ==sysModules)=false∧∃xs:List (List Key×Addr×Value),
  Paired (fun(p:List Key×V) (q:List Key×Addr×Value)=>p.1=q.1∧H q.2.1=some (.tup (p.1.map kV))∧RelV p.2 q.2.2) kvs xs∧
  ∃o es ep,h.get? a=some o∧o.ExactDict∧o.data=.dict es ep∧es.toList=xs.map (entryOfKey (tupleKind (jb P w)))∧(xs.map (·.1)).Nodup
 | .set S n=>h.SetOf (intKind P w) a S n
 | .ins C dx fs=>H dx=some (.own a)∧fs.length≤1000∧dx≠a∧h.get? a=some (W.instObj C dx)∧
  ∃mA,h.Ns1 dx mA∧(∀f,pq (fs.lookup f) (mA f))∧PySem.Within mA (fs.map (·.1))
 | .own _=>∃o,h.get? a=some o
 | .xd fs=>∃mA,h.Ns1 a mA∧∀f,pq (fs.lookup f) (mA f)
 | .SW lo hi=>∃t u v,h.get? a=some {cls:=.type "range",data:=.fields #[.int lo t,.int hi u,.int 1 v]}
 | .mQ o u=>h.get? a=some o∧i5 H h a u
 | .Ko ps=>h.get? a=some {cls:=.none,data:=.fields ps}
 | .met f x=>h.get? a=some (W.methodObj (.ref f) (.ref x))
 | .ext φ=>φ h∧(∃o,h.get? a=some o)∧∀h1 h2:Heap,φ h1→(∀o,h1.get? a=some o→h2.get? a=some o)→φ h2
def qJ(H:Hp)(h:Heap):Prop:=∀a o,H a=some o→i5 P w H h a o
end
section
variable{P:Program}{w:World}{H H':Hp}{h h':Heap}{a:Addr}{o:HO}
theorem i5.lt(x:i5 P w H h a o):a<h.objs.size:=by
 cases o with
 | lst xs=>obtain⟨_,_,_,_,e⟩:=x;exact aax e
 | tup xs=>obtain⟨_,_,_,p⟩:=x;exact p.lt
 | dK kvs=>obtain⟨_,_,_,_,o,_,_,e,_⟩:=x;exact aax e
 | dT kvs=>obtain⟨_,_,_,_,o,_,_,e,_⟩:=x;exact aax e
 | set S n=>obtain⟨o,_,_,_,e,_⟩:=x;exact aax e
 | ins C dx fs=>obtain⟨_,_,_,e,_⟩:=x;exact aax e
 | own y=>obtain⟨_,e⟩:=x;exact aax e
 | xd fs=>obtain⟨_,⟨_,_,_,e,_⟩,_⟩:=x;exact aax e
 | SW lo hi=>obtain⟨_,_,_,e⟩:=x;exact aax e
 | mQ ob u=>obtain⟨e,_⟩:=x;exact aax e
 | Ko ps=>exact aax (show h.get? a=some _ from x)
 | met f y=>exact aax (show h.get? a=some _ from x)
 | ext φ=>obtain⟨_,⟨_,e⟩,_⟩:=x;exact aax e
theorem Paired.kS{α β:Type}{F G:α→β→Prop}:∀{l₁:List α} {l₂:List β},Paired F l₁ l₂→(∀a b,F a b→G a b)→Paired G l₁ l₂
 | _,_,.nil,_=>.nil
 | _,_,.cons r t,f=>.cons (f _ _ r) (Paired.kS t f)
theorem i5.ye(x:i5 P w H h a o)(k:∀b u,(b=a∨H b=some (.own a))→h.get? b=some u→h'.get? b=some u)
  (ho:∀b,H b=some (.own a)→H' b=some (.own a)) (ht:∀b xs,H b=some (.tup xs)→H' b=some (.tup xs)):i5 P w H' h' a o:=by
 induction o with
 | lst xs=>obtain⟨z,hX,n,r,e⟩:=x;exact⟨z,hX,n,r,k _ _ (.inl rfl) e⟩
 | tup xs=>obtain⟨z,hX,r,ob,e,c⟩:=x;exact⟨z,hX,r,ob,k _ _ (.inl rfl) e,c⟩
 | dK kvs=>obtain⟨z,y,vs,r,ob,es,ep,e,c⟩:=x;exact⟨z,y,vs,r,ob,es,ep,k _ _ (.inl rfl) e,c⟩
 | dT kvs=>
  obtain⟨z,y,xs,r,ob,es,ep,e,c⟩:=x
  exact⟨z,y,xs,Paired.kS r fun p q z=>⟨z.1,ht _ _ z.2.1,z.2.2⟩,ob,es,ep,k _ _ (.inl rfl) e,c⟩
 | set S n=>obtain⟨ob,es,ep,t,e,c⟩:=x;exact⟨ob,es,ep,t,k _ _ (.inl rfl) e,c⟩
 | ins C dx fs=>
  obtain⟨d,z,ne,e,mA,⟨od,es,ep,e2,c⟩,r⟩:=x
  exact⟨ho _ d,z,ne,k _ _ (.inl rfl) e,mA,⟨od,es,ep,k _ _ (.inr d) e2,c⟩,r⟩
 | own y=>obtain⟨ob,e⟩:=x;exact⟨ob,k _ _ (.inl rfl) e⟩
 | xd fs=>obtain⟨mA,⟨od,es,ep,e,c⟩,r⟩:=x;exact⟨mA,⟨od,es,ep,k _ _ (.inl rfl) e,c⟩,r⟩
 | SW lo hi=>obtain⟨t,u,v,e⟩:=x;exact⟨t,u,v,k _ _ (.inl rfl) e⟩
 | mQ ob u ih=>obtain⟨e,q⟩:=x;exact⟨k _ _ (.inl rfl) e,ih q⟩
 | Ko ps=>
  have e:h.get? a=some {cls:=.none,data:=.fields ps}:=x
  show h'.get? a=some {cls:=.none,data:=.fields ps}
  exact k a _ (.inl rfl) e
 | met f y=>
  have e:h.get? a=some (W.methodObj (.ref f) (.ref y)):=x
  show h'.get? a=some (W.methodObj (.ref f) (.ref y))
  exact k a _ (.inl rfl) e
 | ext φ=>obtain⟨p,⟨o,e⟩,st⟩:=x;exact⟨st _ _ p fun o q=>k _ _ (.inl rfl) q,⟨o,k _ _ (.inl rfl) e⟩,st⟩
theorem qJ.lt(x:qJ P w H h)(e:H a=some o):a<h.objs.size:=(x a o e).lt
theorem qJ.fresh(x:qJ P w H h)(e:h.objs.size≤a):H a=none:=by
 cases q:H a with
 | none=>rfl
 | some u=>exact absurd (aaE (x.lt q) e) (abm _)
theorem qJ.kept(x:qJ P w H h)(k:∀b u,h.get? b=some u→h'.get? b=some u):qJ P w H h':=fun a o e=>
 (x a o e).ye (fun b u _ q=>k b u q) (fun _ q=>q) fun _ _ q=>q
theorem qJ.laid(x:qJ P w H h)(k:∀b u,h.get? b=some u→h'.get? b=some u)(hp:h.objs.size≤a)(new:i5 P w (upd H a o) h' a o):qJ P w (upd H a o) h':=fun b u e=>by
 have hn:=x.fresh hp
 by_cases hb:b=a
 ·subst hb;rw[b_] at e;cases e;exact new
 ·rw[d_ hb] at e
  exact(x b u e).ye (fun c v _ q=>k c v q) (fun c q=>by rw[d_ (gb q hn)];exact q) fun c xs q=>by rw[d_ (gb q hn)];exact q
end
def Rd(H:Hp)(a:Addr)(u:HO):Prop:=H a=some u∨∃o,H a=some (.mQ o u)
theorem Rd.ok{P:Program}{w:World}{H:Hp}{h:Heap}{a:Addr}{u:HO}(r:Rd H a u)(x:qJ P w H h):i5 P w H h a u:=by
 rcases r with r|⟨o,r⟩
 ·exact x a u r
 ·obtain⟨_,q⟩:=x a _ r
  exact q
def L9:Option HO→Prop
 | some (.lst _)=>True
 | some (.dK _)=>True
 | some (.dT _)=>True
 | some (.set _ _)=>True
 | some (.ins _ _ _)=>True
 | some (.ext _)=>True
 | _=>False
section
variable{P:Program}{w:World}{H:Hp}{h h':Heap}{x e:Addr}{o':HO}
theorem qJ.write(ok:qJ P w H h)(mu:L9 (H x))(he:e=x∨H e=some (.own x))(k:∀b u,b≠e→h.get? b=some u→h'.get? b=some u)(JW:∃u,h'.get? e=some u)
  (new:i5 P w (upd H x o') h' x o'):qJ P w (upd H x o') h':=fun b u q=>by
 have Q8:∀c y,H c=some (.own y)→c≠x:=fun c y r z=>by subst z;rw[r] at mu;exact mu
 have Vb:∀c xs,H c=some (.tup xs)→c≠x:=fun c xs r z=>by subst z;rw[r] at mu;exact mu
 by_cases hb:b=x
 ·subst hb;rw[b_] at q;cases q;exact new
 ·rw[d_ hb] at q
  by_cases OE:b=e
  ·have q':H b=some (.own x):=by
    rcases he with z|z
    ·exact absurd (OE.trans z) hb
    ·rw[OE];exact z
   rw[q] at q';cases q'
   obtain⟨v,hv⟩:=JW
   exact⟨v,by rw[OE];exact hv⟩
  ·refine(ok b u q).ye (fun c v hc r=>k c v ?_ r) (fun c r=>by rw[d_ (Q8 c b r)];exact r) fun c xs r=>by rw[d_ (Vb c xs r)];exact r
   rcases hc with rfl|hc
   ·exact OE
   ·rintro rfl
    rcases he with z|z
    ·exact Q8 c b hc z
    ·rw[hc] at z;cases z;exact hb rfl
end
structure Un(fs ex:List Addr)(H H':Hp)(h h':Heap):Prop where
 keep:∀b o,h.get? b=some o→H b=none→b∉fs→b∉ex→h'.get? b=some o
 slot:∀b o,h.get? b=some o→H b=none→b∈fs→b∉ex→∃sl,h'.get? b=some {o with slots:=sl}
 free:∀b o,h.get? b=some o→H b=none→b∉ex→H' b=none
 there:∀b o,h.get? b=some o→b∉ex→∃o',h'.get? b=some o'
 qX:∀b xs,H b=some (.tup xs)→H' b=some (.tup xs)
 tV:∀b o u,H b=some (.mQ o u)→H' b=some (.mQ o u)
 vS:∀b ps,H b=some (.Ko ps)→∃more,H' b=some (.Ko (ps++more))
section
variable{fs fs' ex ex':List Addr}{H H1 H2:Hp}{h h1 h2 h':Heap}{a x e:Addr}{o:HO}
theorem Un.any(u:Un fs ex H H1 h h1){b:Addr}{ob:Obj}(q:h.get? b=some ob)(n:H b=none)(hx:b∉ex):∃sl,h1.get? b=some {ob with slots:=sl}:=by
 by_cases hb:b∈fs
 ·exact u.slot b ob q n hb hx
 ·exact⟨ob.slots,u.keep b ob q n hb hx⟩
theorem Un.kept(k:∀b u,h.get? b=some u→h'.get? b=some u):Un fs ex H H h h':=
 ⟨fun b ob q _ _ _=>k b ob q,fun b ob q _ _ _=>⟨ob.slots,k b ob q⟩,fun _ _ _ n _=>n,fun b ob q _=>⟨ob,k b ob q⟩,fun _ _ q=>q,fun _ _ _ q=>q,fun _ ps q=>⟨#[],by rw[q];simp⟩⟩
theorem Un.refl:Un fs ex H H h h:=Un.kept fun _ _ q=>q
theorem Un.laid(k:∀b u,h.get? b=some u→h'.get? b=some u)(hp:h.objs.size≤a)(hn:H a=none):Un fs ex H (upd H a o) h h' where
 keep:=fun b u q _ _ _=>k b u q
 slot:=fun b u q _ _ _=>⟨u.slots,k b u q⟩
 free:=fun b u q n _=>by rw[d_ (aaW (aaE (aax q) hp))];exact n
 there:=fun b u q _=>⟨u,k b u q⟩
 qX:=fun b xs q=>by rw[d_ (gb q hn)];exact q
 tV:=fun b u xs q=>by rw[d_ (gb q hn)];exact q
 vS:=fun b ps q=>⟨#[],by rw[d_ (gb q hn),q];simp⟩
theorem Un.write(mu:L9 (H x))(he:e=x∨H e=some (.own x))(k:∀b u,b≠e→h.get? b=some u→h'.get? b=some u)(JW:∃u,h'.get? e=some u):Un fs ex H (upd H x o) h h':=by
 have hx:∀b,H b=none→b≠x:=fun b n z=>by subst z;rw[n] at mu;exact mu
 have hb:∀b,H b=none→b≠e:=fun b n z=>by
  subst z
  rcases he with r|r
  ·exact hx b n r
  ·rw[n] at r;cases r
 have hm:∀b u,H b=some u→¬L9 (some u)→b≠x:=fun b u q nm z=>by subst z;rw[q] at mu;exact nm mu
 refine⟨fun b u q n _ _=>k b u (hb b n) q,fun b u q n _ _=>⟨u.slots,k b u (hb b n) q⟩,fun b u q n _=>by rw[d_ (hx b n)];exact n,fun b u q _=>?_,
  fun b xs q=>by rw[d_ (hm b _ q fun z=>z)];exact q,fun b u xs q=>by rw[d_ (hm b _ q fun z=>z)];exact q,fun b ps q=>⟨#[],by rw[d_ (hm b _ q fun z=>z),q];simp⟩⟩
 by_cases OE:b=e
 ·subst OE;exact JW
 ·exact⟨u,k b u OE q⟩
end
noncomputable def SX(h:Heap)(H:Hp):List Addr:=(List.range h.objs.size).filter fun a=>(H a).isSome
noncomputable def BG(h:Heap)(H:Hp):Heap:=W.hideAll h (SX h H)
theorem GY(h:Heap)(H:Hp):(BG h H).objs.size=h.objs.size:=W.hideAll_size _ _
theorem Ic{h:Heap}{H:Hp}{b:Addr}{o:Obj}(e:h.get? b=some o)(n:H b=none):(BG h H).get? b=some o:=
 W.hideAll_get _ e fun hm=>by
  have q:(H b).isSome=true:=(aaq.mp hm).2
  rw[n] at q;simp at q
theorem KC{h:Heap}{H:Hp}{b:Addr}{o:Obj}(e:(BG h H).get? b=some o):h.get? b=some o∧H b=none:=by
 have e':h.get? b=some o:=W.of_hideAll (SX h H) e
 refine⟨e',?_⟩
 cases q:H b with
 | none=>rfl
 | some x=>
  have hm:b∈SX h H:=aaq.mpr ⟨acg.mpr (aax e'),by simp[q]⟩
  have z:(BG h H).get? b=none:=W.hideAll_none (SX h H) hm
  rw[z] at e;cases e
def KD(g h:Heap)(L:Addr):Qqz:=(List.range h.objs.size).filterMap fun a=>if a=L∨(g.get? a).isSome=true then none else(h.get? a).map fun o=>(a,o)
def rest(g h:Heap)(L d:Addr):Qqz:=(KD g h L).filter fun p=>decide (p.1≠d)
structure Mod(K:Qqy)(mg:Qqx)(base:Heap):Prop where
 MW:K.In base
 glob:base.Ns mainGlobals mg
 blt:∃mb,base.Ns builtinsNs mb∧∀x:Str,x≠"__name__"→mb x=bootBuiltins x
 nolimit:base.NoLimit
structure Cx where
 prog:Program
 w:World
 K:Qqy
 mg:Qqx
 base:Heap
 A:Around
 N:List Str
 s₀:Shared
 H₀:Hp
 env:Env
 outer:List Env
 stack:List Env
 ex:List Addr
 fn:Str→Bool
 calm:Bool
 pn:Qqz
 xe:Qqq
noncomputable def qY(l:List Env):List Addr:=l.filterMap (·.frame)
noncomputable abbrev Cx.fs(X:Cx):List Addr:=qY X.outer
def Ub(sc:Scope)(x:Str):Prop:=sc.names.lookup x=some .local∨sc.names.lookup x=some .cell∨sc.names.lookup x=some .free
def Loc(sc:Scope)(x:Str):Prop:=sc.names.lookup x=some .local∨sc.names.lookup x=some .cell
def Look(env:Env)(h:Heap)(m:Qqx)(x:Str)(u:Value):Prop:=
 (env.kindOf x=some .local∧m x=some u)∨((env.kindOf x=some .cell∨env.kindOf x=some .free)∧∃c,env.cells.lookup x=some c∧h.IsCell c (some u))
structure Cx.Ok(X:Cx):Prop where
 mod:Mod X.K X.mg X.base
 kind:X.env.scope.kind=.function
 glob:X.env.globals=mainGlobals
 blt:X.env.builtins=builtinsNs
 above:X.s₀.heap.objs.size≤X.env.locals
 inj:∀x y c,X.env.cells.lookup x=some c→X.env.cells.lookup y=some c→x=y
 has:∀x,(X.env.kindOf x=some .cell∨X.env.kindOf x=some .free)→∃c,X.env.cells.lookup x=some c
 L_:∀x c,X.fn x=true→X.env.cells.lookup x=some c→X.s₀.heap.objs.size≤c
 hd:X.calm=true→X.A.handled=none
 frames:X.A.frames=some X.stack
 MX:X.stack=X.outer∨(X.stack=X.env::X.outer∧X.env.frame=some X.env.locals)
 P7:∀b∈X.ex,b≠X.env.locals∧∀x c,X.env.cells.lookup x=some c→c≠b
 bs:∀b o,X.base.get? b=some o→X.s₀.heap.get? b=some o∧X.H₀ b=none
 Ie:X.base.objs.size≤X.s₀.heap.objs.size
 qZ:∀b o,X.base.get? b=some o→b∉X.ex
 ET:∀b∈X.ex,b∉X.fs
 sW:X.s₀.heap.FunFrames X.base X.outer
 Kq:∀b∈X.fs,X.H₀ b=none
structure Inv(X:Cx)(c_:Qqz)(σ:List (Option V))(H:Hp)(s:Shared):Prop where
 ok:X.Ok
 os:s.os=X.s₀.os
 bare:AllBare s.gens
 base:Un X.fs X.ex X.H₀ H X.s₀.heap s.heap
 loc:∃m,s.heap.Ns X.env.locals m∧∀(i:Nat)(x:Str)(v:V),X.N[i]?=some x→σ[i]?=some (some v)→Ub X.env.scope x→∃u,RelV v u∧Look X.env s.heap m x u
 cell:∀x c,X.env.cells.lookup x=some c→∃v,s.heap.IsCell c v
 free:H X.env.locals=none
 mB:∀x c,X.env.cells.lookup x=some c→H c=none
 pin:∀p∈X.pn++c_,s.heap.get? p.1=some p.2∧H p.1=none∧p.1≠X.env.locals∧p.1∉X.fs∧∀v,p.2.data≠.cell v
 iH:qJ X.prog X.w H s.heap
 len:σ.length=X.N.length
section
variable{X:Cx}{c_:Qqz}{σ:List (Option V)}{H H':Hp}{s:Shared}{h':Heap}
theorem Cx.Ok.KG(ok:X.Ok){b:Addr}{o:Obj}(e:X.base.get? b=some o):b∉X.fs:=fun hb=>by
 have:=(ok.sW.mem hb).1
 rw[e] at this;cases this
theorem Inv.bs(I:Inv X c_ σ H s):∀b o,X.base.get? b=some o→s.heap.get? b=some o∧H b=none:=fun b o e=>
 ⟨I.base.keep b o (I.ok.bs b o e).1 (I.ok.bs b o e).2 (I.ok.KG e) (I.ok.qZ b o e),I.base.free b o (I.ok.bs b o e).1 (I.ok.bs b o e).2 (I.ok.qZ b o e)⟩
theorem Inv.bk(I:Inv X c_ σ H s):∀b o,X.base.get? b=some o→s.heap.get? b=some o:=fun b o e=>(I.bs b o e).1
theorem Inv.mod(I:Inv X c_ σ H s):Mod X.K X.mg X.base:=I.ok.mod
theorem Inv.uH(I:Inv X c_ σ H s):X.K.In s.heap:=I.ok.mod.MW.keeps I.bk
theorem Inv.lt(I:Inv X c_ σ H s):X.env.locals<s.heap.objs.size:=let ⟨_,hn,_⟩:=I.loc;hn.lt
theorem Inv.sz(I:Inv X c_ σ H s):X.s₀.heap.objs.size≤s.heap.objs.size:=aad I.ok.above (Nat.le_of_lt I.lt)
theorem Inv.P8(I:Inv X c_ σ H s){a:Addr}(h:s.heap.objs.size≤a):a∉X.fs:=fun hb=>by
 obtain⟨_,o,ho,_⟩:=I.ok.sW.mem hb
 exact absurd (aaE (aax ho) (aad I.sz h)) (abm _)
theorem Inv.MY(I:Inv X c_ σ H s):∀x c,X.env.cells.lookup x=some c→c≠X.env.locals:=fun x c e z=>by
 obtain⟨v,o,ho,hd⟩:=I.cell x c e
 obtain⟨m,⟨o',es,ep,om,Vc,_⟩,_⟩:=I.loc
 rw[z,om] at ho;cases ho;rw[Vc] at hd;cases hd
theorem Inv.sW(I:Inv X c_ σ H s):s.heap.FunFrames X.base X.outer:=by
 have all:∀(l:List Env),(∀b∈qY l,b∈X.fs)→X.s₀.heap.FunFrames X.base l→s.heap.FunFrames X.base l:=by
  intro l
  induction l with
  | nil=>intro _ _;trivial
  | cons env r ih=>
   intro hs hl
   obtain⟨hk,⟨L,o,hf,hn,ho,hd⟩,hr⟩:=hl
   have hL:L∈X.fs:=hs L (by unfold qY;rw[abu,hf];exact aav)
   obtain⟨sl,e⟩:=I.base.slot L o ho (I.ok.Kq L hL) hL fun z=>I.ok.ET L z hL
   exact⟨hk,⟨L,_,hf,hn,e,hd⟩,ih (fun b hb=>hs b (by unfold qY;rw[abu,hf];exact aal _ hb)) hr⟩
 exact all X.outer (fun _ hb=>hb) I.ok.sW
theorem Inv.stack(I:Inv X c_ σ H s):s.heap.FunFrames X.base X.stack:=by
 rcases I.ok.MX with e|⟨e,hf⟩
 ·rw[e];exact I.sW
 ·rw[e]
  obtain⟨m,hn,_⟩:=I.loc
  refine .cons (by rw[I.ok.kind];decide) hf hn ?_ I.sW
  exact Heap.get?_none_of_le (aad I.ok.Ie I.ok.above)
theorem Inv.vT(I:Inv X c_ σ H s):∀b∈qY X.stack,b∈X.env.locals::X.fs:=fun b hb=>by
 rcases I.ok.MX with e|⟨e,hf⟩
 ·rw[e] at hb;exact aal _ hb
 ·rw[e] at hb
  unfold qY at hb
  rw[abu,hf] at hb
  exact hb
theorem Inv.yC(I:Inv X c_ σ H s):∀b∈qY X.stack,H b=none:=fun b hb=>by
 rcases XW.mp (I.vT b hb) with e|hb
 ·rw[e];exact I.free
 ·obtain⟨_,o,ho,_⟩:=I.ok.sW.mem hb
  exact I.base.free b o ho (I.ok.Kq b hb) fun z=>I.ok.ET b z hb
theorem Inv.step{g':Array GenState}{t':Nat}{d':Drawn}{ch:List Addr}(I:Inv X c_ σ H s)
  (Ks:∀b∈ch,(b∈X.ex∨X.s₀.heap.objs.size≤b)∧b≠X.env.locals∧(∀x c,X.env.cells.lookup x=some c→c≠b)∧∀p∈X.pn++c_,p.1≠b)
  (keep:∀b o,b≠X.env.locals→b∉X.fs→b∉ch→s.heap.get? b=some o→H b=none→h'.get? b=some o)
  (slot:∀b o,b≠X.env.locals→b∈X.fs→b∉ch→s.heap.get? b=some o→H b=none→∃sl,h'.get? b=some {o with slots:=sl}) (free:∀b o,b∉ch→s.heap.get? b=some o→H b=none→H' b=none)
  (there:∀b o,b∉ch→s.heap.get? b=some o→∃o',h'.get? b=some o')
  (qX:∀b xs,H b=some (.tup xs)→H' b=some (.tup xs)) (tV:∀b o u,H b=some (.mQ o u)→H' b=some (.mQ o u)) (vS:∀b ps,H b=some (.Ko ps)→∃more,H' b=some (.Ko (ps++more)))
  (ns:∀m,s.heap.Ns X.env.locals m→h'.Ns X.env.locals m) (iH:qJ X.prog X.w H' h') (hg:AllBare g') :
  Inv X c_ σ H' {s with heap:=h',gens:=g',drawn:=d',toks:=t'}:=by
 have Yc:∀b o,X.s₀.heap.get? b=some o→b≠X.env.locals:=fun b o e=>aaW (aaE (aax e) I.ok.above)
 have S9:∀b o,X.s₀.heap.get? b=some o→b∉X.ex→b∉ch:=fun b o e hx hb=>by
  rcases(Ks b hb).1 with z|z
  ·exact hx z
  ·exact absurd (aaE (aax e) z) (abm _)
 have cellK:∀x c,X.env.cells.lookup x=some c→∀v,s.heap.IsCell c v→h'.IsCell c v:=fun x c e v ⟨o,ho,hd⟩=>by
  have Q9:c∉ch:=fun z=>(Ks c z).2.2.1 x c e rfl
  by_cases hc:c∈X.fs
  ·obtain⟨sl,q⟩:=slot c o (I.MY x c e) hc Q9 ho (I.mB x c e)
   exact⟨_,q,hd⟩
  ·exact⟨o,keep c o (I.MY x c e) hc Q9 ho (I.mB x c e),hd⟩
 refine⟨I.ok,I.os,hg,⟨fun b o e n hb hx=>?_,fun b o e n hb hx=>?_,fun b o e n hx=>?_,fun b o e hx=>?_,fun b xs e=>qX b xs (I.base.qX b xs e),fun b o xs e=>tV b o xs (I.base.tV b o xs e),fun b ps e=>?_⟩,?_,fun x c e=>?_,?_,fun x c e=>?_,fun p hp=>?_,iH,I.len⟩
 ·exact keep b o (Yc b o e) hb (S9 b o e hx) (I.base.keep b o e n hb hx) (I.base.free b o e n hx)
 ·obtain⟨sl,e1⟩:=I.base.slot b o e n hb hx
  obtain⟨sl',e2⟩:=slot b _ (Yc b o e) hb (S9 b o e hx) e1 (I.base.free b o e n hx)
  exact⟨sl',e2⟩
 ·obtain⟨o',e1⟩:=I.base.there b o e hx
  exact free b o' (S9 b o e hx) e1 (I.base.free b o e n hx)
 ·obtain⟨o',e1⟩:=I.base.there b o e hx
  exact there b o' (S9 b o e hx) e1
 ·obtain⟨m1,e1⟩:=I.base.vS b ps e
  obtain⟨m2,e2⟩:=vS b _ e1
  exact⟨m1++m2,by rw[e2,Array.append_assoc]⟩
 ·obtain⟨m,hn,hl⟩:=I.loc
  refine⟨m,ns m hn,fun i x v e1 e2 e3=>?_⟩
  obtain⟨u,r,l⟩:=hl i x v e1 e2 e3
  refine⟨u,r,?_⟩
  rcases l with l|⟨k,c,e,z⟩
  ·exact .inl l
  ·exact .inr ⟨k,c,e,cellK x c e _ z⟩
 ·obtain⟨v,z⟩:=I.cell x c e
  exact⟨v,cellK x c e v z⟩
 ·obtain⟨m,⟨o,_,_,ho,_⟩,_⟩:=I.loc
  exact free _ o (fun z=>(Ks _ z).2.1 rfl) ho I.free
 ·obtain⟨v,o,ho,hd⟩:=I.cell x c e
  exact free c o (fun z=>(Ks c z).2.2.1 x c e rfl) ho (I.mB x c e)
 ·obtain⟨e,n,ne,nf,d⟩:=I.pin p hp
  have Q9:p.1∉ch:=fun z=>(Ks p.1 z).2.2.2 p hp rfl
  exact⟨keep p.1 p.2 ne nf Q9 e n,free p.1 p.2 Q9 e n,ne,nf,d⟩
theorem Inv.un{t':Nat}(I:Inv X c_ σ H s)(u:Un X.fs [] H H' s.heap h')(iH:qJ X.prog X.w H' h'):Inv X c_ σ H' {s with heap:=h',toks:=t'}:=by
 obtain⟨m,⟨o,es,ep,ho,r⟩,_⟩:=id I.loc
 obtain⟨sl,hL⟩:=u.any ho I.free (by simp)
 exact I.step (g':=s.gens) (d':=s.drawn) (ch:=[]) (fun _ z=>nomatch z) (fun b o _ hb _ e n=>u.keep b o e n hb (by simp)) (fun b o _ hb _ e n=>u.slot b o e n hb (by simp)) (fun b o _ e n=>u.free b o e n (by simp)) (fun b o _ e=>u.there b o e (by simp)) u.qX u.tV u.vS (fun m' hm=>by
  obtain⟨o',PB,Mu,om,r'⟩:=hm
  rw[ho] at om;cases om
  exact⟨_,PB,Mu,hL,r'⟩) iH I.bare
theorem Inv.call{g':Array GenState}{t':Nat}{d':Drawn}{ch:List Addr}(I:Inv X c_ σ H s)(u:Un (qY X.stack) ch H H' s.heap h')(iH:qJ X.prog X.w H' h')(hg:AllBare g')
  (Ks:∀b∈ch,(b∈X.ex∨X.s₀.heap.objs.size≤b)∧b≠X.env.locals∧(∀x c,X.env.cells.lookup x=some c→c≠b)∧∀p∈X.pn++c_,p.1≠b) :
  Inv X c_ σ H' {s with heap:=h',gens:=g',drawn:=d',toks:=t'}:=by
 obtain⟨m,⟨o,es,ep,ho,r⟩,_⟩:=id I.loc
 obtain⟨sl,hL⟩:=u.any ho I.free fun z=>(Ks _ z).2.1 rfl
 exact I.step (ch:=ch) Ks (fun b o hL hb hc e n=>u.keep b o e n (fun z=>(XW.mp (I.vT b z)).elim hL hb) hc) (fun b o _ _ hc e n=>u.any e n hc) (fun b o hc e n=>u.free b o e n hc) (fun b o hc e=>u.there b o e hc) u.qX u.tV u.vS (fun m' hm=>by
  obtain⟨o',PB,Mu,om,r'⟩:=hm
  rw[ho] at om;cases om
  exact⟨_,PB,Mu,hL,r'⟩) iH hg
theorem Inv.turned{t':Nat}{it:Addr}(I:Inv X c_ σ H s)(k:∀b o,b≠it→s.heap.get? b=some o→h'.get? b=some o)(hn:H it=none)(hL:it≠X.env.locals)
  (h1:it∈X.ex∨X.s₀.heap.objs.size≤it) (h2:∀x c,X.env.cells.lookup x=some c→c≠it) (h3:∀p∈X.pn++c_,p.1≠it):Inv X c_ σ H {s with heap:=h',toks:=t'}:=by
 have Yd:∀b u,H b=some u→b≠it:=fun b u e z=>by rw[z,hn] at e;cases e
 refine I.step (g':=s.gens) (d':=s.drawn) (ch:=[it]) (fun b hb=>?_) (fun b o _ _ hc e _=>k b o (fun z=>hc (by simp[z])) e) (fun b o _ _ hc e _=>⟨o.slots,k b o (fun z=>hc (by simp[z])) e⟩) (fun _ _ _ _ n=>n)
  (fun b o hc e=>⟨o,k b o (fun z=>hc (by simp[z])) e⟩) (fun _ _ e=>e) (fun _ _ _ e=>e) (fun b ps e=>⟨#[],by rw[e];simp⟩) (fun m hm=>?_) (fun b u e=>?_) I.bare
 ·have e:b=it:=by simpa using hb
  subst e
  exact⟨h1,hL,h2,h3⟩
 ·obtain⟨o,es,ep,ho,r⟩:=hm
  exact⟨o,es,ep,k _ o (abQ hL) ho,r⟩
 ·refine(I.iH b u e).ye (fun c v hc q=>k c v ?_ q) (fun _ q=>q) fun _ _ q=>q
  rcases hc with z|z
  ·rw[z];exact Yd b u e
  ·exact Yd c _ z
theorem Inv.tok(I:Inv X c_ σ H s)(t:Nat):Inv X c_ σ H {s with toks:=t}:=I.un (h':=s.heap) (t':=t) Un.refl I.iH
theorem Inv.kept{t':Nat}(I:Inv X c_ σ H s)(k:∀b u,s.heap.get? b=some u→h'.get? b=some u):Inv X c_ σ H {s with heap:=h',toks:=t'}:=I.un (Un.kept k) (I.iH.kept k)
theorem Inv.laid{a:Addr}{o:HO}{t':Nat}(I:Inv X c_ σ H s)(k:∀b u,s.heap.get? b=some u→h'.get? b=some u)(hp:s.heap.objs.size≤a)(new:i5 X.prog X.w (upd H a o) h' a o) :
 Inv X c_ σ (upd H a o) {s with heap:=h',toks:=t'}:=I.un (Un.laid k hp (I.iH.fresh hp)) (I.iH.laid k hp new)
theorem Inv.write{x e:Addr}{o:HO}{t':Nat}(I:Inv X c_ σ H s)(mu:L9 (H x))(he:e=x∨H e=some (.own x))(k:∀b u,b≠e→s.heap.get? b=some u→h'.get? b=some u)(JW:∃u,h'.get? e=some u)
 (new:i5 X.prog X.w (upd H x o) h' x o):Inv X c_ σ (upd H x o) {s with heap:=h',toks:=t'}:=I.un (Un.write mu he k JW) (I.iH.write mu he k JW new)
theorem Inv.yD{Mv:Qqz}(I:Inv X c_ σ H s)(h:∀p∈Mv,s.heap.get? p.1=some p.2∧H p.1=none∧p.1≠X.env.locals∧p.1∉X.fs∧∀v,p.2.data≠.cell v):Inv X Mv σ H s:=
 ⟨I.ok,I.os,I.bare,I.base,I.loc,I.cell,I.free,I.mB,fun p hp=>(XX.mp hp).elim (fun z=>I.pin p (aat _ z)) (h p),I.iH,I.len⟩
theorem C8{N:List Str}(hN:N.Nodup){i j:Nat}{x:Str}(a:N[i]?=some x)(b:N[j]?=some x):i=j:=by
 obtain⟨h1,e1⟩:=RO.mp a
 obtain⟨h2,e2⟩:=RO.mp b
 exact(List.getElem_inj hN).mp (e1.trans e2.symm)
theorem AZ{M:Model}{A:Around}{E:Qqq}{i:Nat}{x:Str}{v:V}{u:Value}{Q:Unit→Shared→Prop}(I:Inv X c_ σ H s)(hN:X.N.Nodup)(hi:X.N[i]?=some x)(hx:Loc X.env.scope x)(r:RelV v u)
  (h:∀s',Inv X c_ (σ.set i (some v)) H s'→(∃a,Heap.SameBut a s.heap s'.heap∧(a=X.env.locals∨X.env.cells.lookup x=some a))→Q () s') (hf:X.fn x=true∨X.env.scope.names.lookup x=some .local:=by first|exact .inl rfl|exact .inr rfl|assumption):wpAny M A (storeName X.env x u) Q E s:=by
 obtain⟨m,hn,hl⟩:=id I.loc
 have Vd:(X.env.scope.kind ==.class||(X.env.scope.kind ==.module&&X.env.locals != X.env.globals))=false:=by rw[I.ok.kind];rfl
 have Ye:i<σ.length:=by rw[I.len];exact(RO.mp hi).1
 have MY:=I.MY
 have tracked:∀{a:Addr} {h':Heap},(∃o,s.heap.get? a=some o∧H a=none)→Heap.SameBut a s.heap h'→qJ X.prog X.w H h':=fun{a h'} ha hs b ob e=>by
  obtain⟨_,_,tU⟩:=ha
  refine(I.iH b ob e).ye (fun c w' hc q=>(hs.2 c ?_).trans q) (fun _ q=>q) fun _ _ q=>q
  rintro rfl
  rcases hc with rfl|hc
  ·rw[tU] at e;cases e
  ·rw[tU] at hc;cases hc
 rcases hx with hk|hk
 ·refine wpAny_storeName_local hk hn (fun h' PD hs=>?_) Vd
  obtain⟨oL,_,_,hoL,_⟩:=id hn
  refine h _ ⟨I.ok,I.os,I.bare,⟨fun b o e n hb hx=>?_,fun b o e n hb hx=>?_,I.base.free,fun b o e hx=>?_,I.base.qX,I.base.tV,I.base.vS⟩,⟨_,PD,fun j y v' e1 e2 e3=>?_⟩,fun y c e=>?_,I.free,I.mB,fun p hp=>?_,tracked ⟨oL,hoL,I.free⟩ hs,by simpa using I.len⟩ ⟨_,hs,.inl rfl⟩
  ·exact(hs.2 b (aaW (aaE (aax e) I.ok.above))).trans (I.base.keep b o e n hb hx)
  ·obtain⟨sl,e1⟩:=I.base.slot b o e n hb hx
   exact⟨sl,(hs.2 b (aaW (aaE (aax e) I.ok.above))).trans e1⟩
  ·obtain⟨o',e1⟩:=I.base.there b o e hx
   exact⟨o',(hs.2 b (aaW (aaE (aax e) I.ok.above))).trans e1⟩
  ·by_cases hj:j=i
   ·subst hj
    rw[hi] at e1;cases e1
    rw[abg Ye] at e2
    cases e2
    exact⟨u,r,.inl ⟨hk,by simp⟩⟩
   ·rw[abo (abQ hj)] at e2
    obtain⟨u',r',q⟩:=hl j y v' e1 e2 e3
    refine⟨u',r',?_⟩
    rcases q with⟨k,e⟩|⟨k,c,e,z⟩
    ·refine .inl ⟨k,?_⟩
     have:y≠x:=fun e=>hj (C8 hN e1 (e▸hi))
     simp[this,e]
    ·exact .inr ⟨k,c,e,z.sameBut hs (MY y c e)⟩
  ·obtain⟨w',z⟩:=I.cell y c e
   exact⟨w',z.sameBut hs (MY y c e)⟩
  ·obtain⟨e,n,ne,nf,d⟩:=I.pin p hp
   exact⟨(hs.2 p.1 ne).trans e,n,ne,nf,d⟩
 ·have JX:X.fn x=true:=by
   rcases hf with z|z
   ·exact z
   ·rw[z] at hk;cases hk
  obtain⟨c,hc⟩:=I.ok.has x (.inl hk)
  obtain⟨w',z⟩:=I.cell x c hc
  refine wpAny_storeName_cell I.ok.kind hk hc z (fun h' BD hs=>?_)
  obtain⟨oc,Yf,Ve⟩:=id z
  refine h {s with heap:=h'} ⟨I.ok,I.os,I.bare,⟨fun b o e n hb hx=>?_,fun b o e n hb hx=>?_,I.base.free,fun b o e hx=>?_,I.base.qX,I.base.tV,I.base.vS⟩,⟨m,hn.sameBut hs (abQ (MY x c hc)),fun j y v' e1 e2 e3=>?_⟩,fun y c' e=>?_,I.free,I.mB,fun p hp=>?_,tracked ⟨oc,Yf,I.mB x c hc⟩ hs,by simpa using I.len⟩ ⟨c,hs,.inr hc⟩
  ·exact(hs.2 b (aaW (aaE (aax e) (I.ok.L_ x c JX hc)))).trans (I.base.keep b o e n hb hx)
  ·obtain⟨sl,e1⟩:=I.base.slot b o e n hb hx
   exact⟨sl,(hs.2 b (aaW (aaE (aax e) (I.ok.L_ x c JX hc)))).trans e1⟩
  ·obtain⟨o',e1⟩:=I.base.there b o e hx
   exact⟨o',(hs.2 b (aaW (aaE (aax e) (I.ok.L_ x c JX hc)))).trans e1⟩
  ·by_cases hj:j=i
   ·subst hj
    rw[hi] at e1;cases e1
    rw[abg Ye] at e2
    cases e2
    exact⟨u,r,.inr ⟨.inl hk,c,hc,BD⟩⟩
   ·rw[abo (abQ hj)] at e2
    obtain⟨u',r',q⟩:=hl j y v' e1 e2 e3
    refine⟨u',r',?_⟩
    rcases q with q|⟨k,c',e,z'⟩
    ·exact .inl q
    ·refine .inr ⟨k,c',e,z'.sameBut hs ?_⟩
     rintro rfl
     exact hj (C8 hN e1 (I.ok.inj _ _ _ e hc▸hi))
  ·by_cases Yg:c'=c
   ·subst Yg;exact⟨_,BD⟩
   ·obtain⟨w2,z2⟩:=I.cell y c' e
    exact⟨w2,z2.sameBut hs Yg⟩
  ·obtain⟨e,n,ne,nf,d⟩:=I.pin p hp
   refine⟨(hs.2 p.1 ?_).trans e,n,ne,nf,d⟩
   intro q
   rw[q,Yf] at e
   have q':oc=p.2:=aaD e
   exact d w' (by rw[←q'];exact Ve)
theorem C9{M:Model}{A:Around}{E:Qqq}{i:Nat}{x:Str}{v:V}{u:Value}{Q:Unit→Shared→Prop}(I:Inv X c_ σ H s)(hN:X.N.Nodup)(hi:X.N[i]?=some x)(hx:Loc X.env.scope x)(r:RelV v u)
  (h:∀s',Inv X c_ (σ.set i (some v)) H s'→Q () s') (hf:X.fn x=true∨X.env.scope.names.lookup x=some .local:=by first|exact .inl rfl|exact .inr rfl|assumption):wpAny M A (storeName X.env x u) Q E s:=
 AZ I hN hi hx r (fun s' I' _=>h s' I') hf
theorem Inv.Ma{s':Shared}{ch:List Addr}(I:Inv X c_ σ H s)(ho:s'.os=s.os)(u:Un (qY X.stack) ch H H' s.heap s'.heap)(iH:qJ X.prog X.w H' s'.heap)(hg:AllBare s'.gens)
  (Ks:∀b∈ch,(b∈X.ex∨X.s₀.heap.objs.size≤b)∧b≠X.env.locals∧(∀x c,X.env.cells.lookup x=some c→c≠b)∧∀p∈X.pn++c_,p.1≠b):Inv X c_ σ H' s':=by
 obtain⟨h',g',d',t',o'⟩:=s'
 have e:o'=s.os:=ho
 subst e
 exact I.call (g':=g') (t':=t') (d':=d') u iH hg Ks
end
abbrev XK:=Value→Option Addr→Hp→Prop
abbrev St:=List (Option V)
abbrev VK:=V→Hp→Prop
abbrev TE:=St→Hp→VK→Prop
abbrev TT:=St→Hp→(Bool→Hp→Prop)→Prop
abbrev TA:=St→Hp→(List V→Hp→Prop)→Prop
structure Ends where
 nx:St→Hp→Prop
 rt:VK
 bk:St→Hp→Prop:=fun _ _=>False
 ct:St→Hp→Prop:=fun _ _=>False
abbrev TS:=Ends→St→Hp→Prop
def EP(X:Cx)(c_:Qqz)(σ:St)(Q:VK)(u:Value)(s':Shared):Prop:=∃v H',Inv X c_ σ H' s'∧RelV v u∧Q v H'
def TP(X:Cx)(c_:Qqz)(σ:St)(Q:Bool→Hp→Prop)(b:Bool)(s':Shared):Prop:=∃H',Inv X c_ σ H' s'∧Q b H'
def AP(X:Cx)(c_:Qqz)(σ:St)(Q:List V→Hp→Prop)(us:List Value)(s':Shared):Prop:=∃vs H',Inv X c_ σ H' s'∧Vals vs us∧Q vs H'
def SP(X:Cx)(c_:Qqz)(D:Ends)(f:Flow)(s':Shared):Prop:=
 match f with
 | .next=>∃σ' H',Inv X c_ σ' H' s'∧D.nx σ' H'
 | .brk=>∃σ' H',Inv X c_ σ' H' s'∧D.bk σ' H'
 | .cont=>∃σ' H',Inv X c_ σ' H' s'∧D.ct σ' H'
 | .ret u=>∃v σ' H',Inv X c_ σ' H' s'∧RelV v u∧D.rt v H'
def PE(X:Cx)(e:Expr)(t:TE):Prop:=
 ∀(c_:Qqz)(s:Shared)(σ:St)(H:Hp)(Q:VK),Inv X c_ σ H s→t σ H Q→wpAny (model X.prog X.w) X.A (eval e X.env) (EP X c_ σ Q) X.xe s
def PT(X:Cx)(e:Expr)(t:TT):Prop:=
 ∀(c_:Qqz)(s:Shared)(σ:St)(H:Hp)(Q:Bool→Hp→Prop),Inv X c_ σ H s→t σ H Q→wpAny (model X.prog X.w) X.A (isTrue e X.env (eval e X.env)) (TP X c_ σ Q) X.xe s
def PW(X:Cx)(e:Expr)(t:TT):Prop:=
 ∀(whole:Sem Value)(c_:Qqz)(s:Shared)(σ:St)(H:Hp)(Q:Bool→Hp→Prop),Inv X c_ σ H s→t σ H Q→wpAny (model X.prog X.w) X.A (isTrue e X.env whole) (TP X c_ σ Q) X.xe s
theorem PW.pt{X:Cx}{e:Expr}{t:TT}(h:PW X e t):PT X e t:=h _
def PA(X:Cx)(es:List Expr)(t:TA):Prop:=
 ∀(pos:Pos)(c_:Qqz)(s:Shared)(σ:St)(H:Hp)(Q:List V→Hp→Prop),Inv X c_ σ H s→t σ H Q→wpAny (model X.prog X.w) X.A (spliced (backTo pos (starEach es X.env))) (AP X c_ σ Q) X.xe s
def PS(X:Cx)(st:Stmt)(t:TS):Prop:=
 ∀(c_:Qqz)(s:Shared)(σ:St)(H:Hp)(D:Ends),Inv X c_ σ H s→t D σ H→wpAny (model X.prog X.w) X.A (exec st X.env) (SP X c_ D) X.xe s
def C5(X:Cx)(st:List Stmt)(t:TS):Prop:=
 ∀(c_:Qqz)(s:Shared)(σ:St)(H:Hp)(D:Ends),Inv X c_ σ H s→t D σ H→wpAny (model X.prog X.w) X.A (execs st X.env) (SP X c_ D) X.xe s
theorem i3{α:Type}{t:Sem α}{Q Q':α→Shared→Prop}{M:Model}{A:Around}{E:Qqq}{s:Shared}(h:wpAny M A t Q E s)(hQ:∀a s,Q a s→Q' a s):wpAny M A t Q' E s:=abp h hQ fun _ _ x=>x
section
variable{X:Cx}
def P9(i:Nat):TE:=fun σ H Q=>∃v,σ[i]?=some (some v)∧Q v H
def tC(v:V):TE:=fun _ H Q=>Q v H
theorem MZ{i:Nat}{x:Str}{pos:Pos}(hN:X.N[i]?=some x)(hv:Ub X.env.scope x)(hd:(x ==("__debug__":Str))=false:=by decide)(BE:(x ==("__classdict__":Str))=false:=by decide):PE X (.Name x pos) (P9 i):=by
 intro c_ s σ H Q I h
 obtain⟨v,e,h⟩:=h
 obtain⟨m,hn,hl⟩:=I.loc
 obtain⟨u,r,l⟩:=hl i x v hN e hv
 have fin:EP X c_ σ Q u s:=⟨v,H,I,r,h⟩
 rcases l with⟨hk,hm⟩|⟨hk,c,hc,Mw⟩
 ·exact wpAny_Name (wpAny_loadName_local I.ok.kind hk hn hm fin) hd
 ·rcases hk with hk|hk
  ·exact wpAny_Name (wpAny_loadName_cell I.ok.kind hk hc Mw fin) hd
  ·exact wpAny_Name (wpAny_loadName_free I.ok.kind hk hc Mw fin BE) hd
theorem f_{i j pos}:PE X (.Constant (.int i) j pos) (tC (.int i)):=fun _ _ _ H _ I h=>wpAny_Constant_int ⟨.int i,H,I.tok _,⟨_,rfl⟩,h⟩
theorem lD{b j pos}:PE X (.Constant (.bool b) j pos) (tC (.bl b)):=fun _ _ _ H _ I h=>Constant_bool ⟨.bl b,H,I,rfl,h⟩
theorem tW{j pos}:PE X (.Constant .none j pos) (tC .jn):=fun _ _ _ H _ I h=>Constant_none ⟨.jn,H,I,rfl,h⟩
theorem iV{x j pos}:PE X (.Constant (.str x) j pos) (tC (.str x)):=fun _ _ _ H _ I h=>Calls.Constant_str ⟨.str x,H,I.tok _,⟨_,rfl⟩,h⟩
def Gl(X:Cx)(x:Str):Prop:=X.env.kindOf x=some .globalImplicit
theorem sF{E:Qqq}{c_:Qqz}{s:Shared}{σ:St}{H:Hp}{x:Str}{u:Value}{pos:Pos}{Q:Qqq}(I:Inv X c_ σ H s)(hg:Gl X x)(hm:X.mg x=some u)(h:Q u s)
  (hd:(x ==("__debug__":Str))=false:=by decide):wpAny (model X.prog X.w) X.A (eval (.Name x pos) X.env) Q E s:=
 Calls.Name_function_global I.ok.kind hg (Calls.loadGlobal_global (by rw[I.ok.glob];exact I.mod.glob.keeps I.bk) hm h) hd
theorem o4{E:Qqq}{c_:Qqz}{s:Shared}{σ:St}{H:Hp}{x:Str}{u:Value}{pos:Pos}{Q:Qqq}(I:Inv X c_ σ H s)(hg:Gl X x)(hm:X.mg x=none)(hv:bootBuiltins x=some u)(h:Q u s)
  (hn:x≠"__name__":=by decide) (hd:(x ==("__debug__":Str))=false:=by decide):wpAny (model X.prog X.w) X.A (eval (.Name x pos) X.env) Q E s:=by
 obtain⟨mb,h1,h2⟩:=I.mod.blt
 exact Calls.Name_function_global I.ok.kind hg (Calls.loadGlobal_builtin (by rw[I.ok.glob];exact I.mod.glob.keeps I.bk) hm (by rw[I.ok.blt];exact h1.keeps I.bk) ((h2 x hn).trans hv) h) hd
theorem BH{x:Str}{v:V}{u:Value}{pos:Pos}(hg:Gl X x)(hm:X.mg x=some u)(r:RelV v u)(hd:(x ==("__debug__":Str))=false:=by decide):PE X (.Name x pos) (tC v):=
 fun _ _ _ H _ I h=>sF I hg hm ⟨v,H,I,r,h⟩ hd
theorem Gb{x:Str}{v:V}{u:Value}{pos:Pos}(hg:Gl X x)(hm:X.mg x=none)(hv:bootBuiltins x=some u)(r:RelV v u)(hn:x≠"__name__":=by decide)(hd:(x ==("__debug__":Str))=false:=by decide):PE X (.Name x pos) (tC v):=
 fun _ _ _ H _ I h=>o4 I hg hm hv ⟨v,H,I,r,h⟩ hn hd
variable{a b:Expr}{ta tb:TE}{pos:Pos}
def PC(X:Cx)(op:CmpOp)(a b:Expr)(t:TE):Prop:=
 ∀(c_:Qqz)(s:Shared)(σ:St)(H:Hp)(Q:VK),Inv X c_ σ H s→t σ H Q→
  wpAny (model X.prog X.w) X.A (eval a X.env) (fun v s₁=>wpAny (model X.prog X.w) X.A (eval b X.env) (fun u s₂=>wpAny (model X.prog X.w) X.A (compareOp op v u) (EP X c_ σ Q) X.xe s₂) X.xe s₁) X.xe s
theorem C_(b:Expr){op:CmpOp}(h:op≠.In)(h2:op≠.NotIn):behindInMarks op b=false:=by
 have e1:(op ==CmpOp.In)=false:=by cases op<;>first|rfl|exact absurd rfl h
 have e2:(op ==CmpOp.NotIn)=false:=by cases op<;>first|rfl|exact absurd rfl h2
 cases b<;>simp[behindInMarks,e1,e2]
def P_(ta:TE):TE:=fun σ H Q=>ta σ H fun x H1=>Q (.bl (!decide (x=.jn))) H1
theorem RelV.Ig{x:V}{v:Value}(r:RelV x v):(v ==Value.none)=decide (x=.jn):=by
 cases x with
 | jn=>cases r;rfl
 | bl _=>cases r;rfl
 | int _=>obtain⟨t,rfl⟩:=r;rfl
 | str _=>obtain⟨t,rfl⟩:=r;rfl
 | ES _=>obtain⟨t,rfl⟩:=r;rfl
 | L8 _=>obtain⟨t,rfl⟩:=r;rfl
 | ref _=>cases r;rfl
 | ty _=>cases r;rfl
theorem oy{j pos'}(ha:PE X a ta):PC X .IsNot a (.Constant .none j pos') (P_ ta):=by
 intro c_ s σ H Q I h
 refine i3 (ha c_ s σ H _ I h) fun v s1 ⟨x,H1,I1,r1,q1⟩=>?_
 exact Constant_none (isnot_none_gen ⟨.bl _,H1,I1,by rw[r1.Ig];rfl,q1⟩)
def tB(t:TE):TT:=fun σ H Q=>t σ H fun x H1=>∃c,x=.bl c∧Q c H1
theorem M0{op:CmpOp}{t:TE}(h:PC X op a b t)(h1:behindInMarks op b=false:=by first|exact C_ _ (by decide) (by decide)|rfl):PE X (.Compare a [op] [b] pos) t:=fun c_ s σ H Q I hw=>wpAny_Compare1 (h c_ s σ H Q I hw) h1
theorem i7{op:CmpOp}{t:TE}(h:PC X op a b t)(h1:behindInMarks op b=false:=by first|exact C_ _ (by decide) (by decide)|rfl):PT X (.Compare a [op] [b] pos) (tB t):=by
 intro c_ s σ H Q I hw
 refine wpAny_isTrue_Compare1 (i3 (h c_ s σ H _ I hw) fun v s1 h1=>i3 h1 fun u s2 h2=>i3 h2 fun c s3 ⟨x,H1,I1,r1,q1⟩=>?_) h1
 obtain⟨d,rfl,q⟩:=q1
 cases r1
 exact abU ⟨H1,I1,q⟩
theorem vU{e:Expr}{t:TE}(h:PE X e t)(he:∀whole,isTrue e X.env whole=(do let v ←whole;standAt e.pos;holding [v] (truthy v)):=by intro _;rfl):PT X e (tB t):=by
 intro c_ s σ H Q I hw
 refine isTrue_plain (i3 (h c_ s σ H _ I hw) fun v s1 ⟨x,H1,I1,r1,q1⟩=>?_) (he _)
 obtain⟨d,rfl,q⟩:=q1
 cases r1
 exact abU ⟨H1,I1,q⟩
variable{tA S_:TT}{rest:List Expr}
def Uc(t u:TT):TT:=fun σ H Q=>t σ H fun c H1=>if c=true then u σ H1 Q else Q false H1
def tOr(t u:TT):TT:=fun σ H Q=>t σ H fun c H1=>if c=true then Q true H1 else u σ H1 Q
def Ud(t:TT):TT:=fun σ H Q=>t σ H fun c H1=>Q (!c) H1
theorem pw_and1(ha:PT X a tA):PW X (.BoolOp .And [a] pos) tA:=by
 intro wh c_ s σ H Q I h
 refine isTrue_and (i3 (ha c_ s σ H Q I h) fun c s1 e=>?_)
 cases c with
 | true=>exact isTrue_and_nil e
 | false=>exact e
theorem pw_or1(ha:PT X a tA):PW X (.BoolOp .Or [a] pos) tA:=by
 intro wh c_ s σ H Q I h
 refine isTrue_or (i3 (ha c_ s σ H Q I h) fun c s1 e=>?_)
 cases c with
 | false=>exact isTrue_or_nil e
 | true=>exact e
theorem pw_and(ha:PT X a tA)(hb:PW X (.BoolOp .And (b::rest) pos) S_):PW X (.BoolOp .And (a::b::rest) pos) (Uc tA S_):=by
 intro wh c_ s σ H Q I h
 refine isTrue_and (i3 (ha c_ s σ H _ I h) fun c s1 ⟨H1,I1,q1⟩=>?_)
 cases c with
 | true=>exact hb wh c_ s1 σ H1 Q I1 q1
 | false=>exact⟨H1,I1,q1⟩
theorem pw_or(ha:PT X a tA)(hb:PW X (.BoolOp .Or (b::rest) pos) S_):PW X (.BoolOp .Or (a::b::rest) pos) (tOr tA S_):=by
 intro wh c_ s σ H Q I h
 refine isTrue_or (i3 (ha c_ s σ H _ I h) fun c s1 ⟨H1,I1,q1⟩=>?_)
 cases c with
 | true=>exact⟨H1,I1,q1⟩
 | false=>exact hb wh c_ s1 σ H1 Q I1 q1
theorem q8(ha:PT X a tA):PT X (.UnaryOp .Not a pos) (Ud tA):=by
 intro c_ s σ H Q I h
 exact isTrue_not (ha c_ s σ H (fun c H1=>Q (!c) H1) I h)
end
def hV(K:Qqy)(H:Hp)(a:Addr)(xs:List V):Prop:=
 Rd H a (.lst xs)∨
  ∃(o:Obj)(hX:Array Value)(n:Nat),K.lookup a=some o∧o.cls=.type "list"∧o.dict=none∧o.data=.seq hX n∧hX.size≤sizeLine∧Vals xs hX.toList
def pk(K:Qqy)(H:Hp)(a:Addr)(xs:List V):Prop:=
 Rd H a (.tup xs)∨
  ∃(o:Obj)(hX:Array Value)(n:Nat),K.lookup a=some o∧o.cls=.type "tuple"∧o.data=.seq hX n∧hX.size≤sizeLine∧Vals xs hX.toList
noncomputable def Ue:Value→Option V
 | .none=>some .jn
 | .bool b=>some (.bl b)
 | .int i _=>some (.int i)
 | .str x _=>some (.str x)
 | .bytes b _=>some (.ES b)
 | .float b _=>some (.L8 b)
 | .ref a=>some (.ref a)
 | .type n=>some (.ty n)
 | _=>none
theorem RelV.abs{x:V}{u:Value}(r:RelV x u):Ue u=some x:=by
 cases x with
 | jn=>cases r;rfl
 | bl _=>cases r;rfl
 | int _=>obtain⟨t,rfl⟩:=r;rfl
 | str _=>obtain⟨t,rfl⟩:=r;rfl
 | ES _=>obtain⟨t,rfl⟩:=r;rfl
 | L8 _=>obtain⟨t,rfl⟩:=r;rfl
 | ref _=>cases r;rfl
 | ty _=>cases r;rfl
theorem RelV.inj{x y:V}{u:Value}(r:RelV x u)(q:RelV y u):x=y:=aaD (r.abs.symm.trans q.abs)
theorem Vals.inj:∀{xs ys:List V} {us:List Value},Vals xs us→Vals ys us→xs=ys
 | _,_,_,.nil,.nil=>rfl
 | _,_,_,.cons r t,.cons r' t'=>by rw[r.inj r',Vals.inj t t']
section
variable{X:Cx}{c_:Qqz}{σ:St}{H:Hp}{s:Shared}{a:Addr}{xs ys:List V}
theorem hV.of{K:Qqy}(h:H a=some (.lst xs)):hV K H a xs:=.inl (.inl h)
theorem pk.of{K:Qqy}(h:H a=some (.tup xs)):pk K H a xs:=.inl (.inl h)
theorem Inv.list(I:Inv X c_ σ H s)(h:hV X.K H a xs):∃hX:List Value,Vals xs hX∧PlainL s.heap a hX.toArray∧xs.length≤sizeLine:=by
 rcases h with h|⟨o,hX,n,hk,hc,hd,hs,hz,r⟩
 ·obtain⟨z,hX,n,r,e⟩:=h.ok I.iH
  exact⟨hX,r,⟨_,n,e,rfl,rfl,rfl⟩,z⟩
 ·refine⟨hX.toList,r,⟨o,n,I.uH a o hk,hc,hd,by simpa using hs⟩,?_⟩
  have e:=r.length
  simp only [aa9] at e
  omega
theorem Inv.tuple(I:Inv X c_ σ H s)(h:pk X.K H a xs):∃hX:List Value,Vals xs hX∧IsTup s.heap a hX.toArray∧xs.length≤sizeLine:=by
 rcases h with h|⟨o,hX,n,hk,hc,hs,hz,r⟩
 ·obtain⟨z,hX,r,p⟩:=h.ok I.iH
  exact⟨hX,r,p,z⟩
 ·refine⟨hX.toList,r,⟨o,I.uH a o hk,hc,n,by simpa using hs⟩,?_⟩
  have e:=r.length
  simp only [aa9] at e
  omega
theorem Inv.pw(I:Inv X c_ σ H s)(h:hV X.K H a xs)(h':hV X.K H a ys):xs=ys:=by
 obtain⟨hX,r,⟨o,n,e,_,_,d⟩,_⟩:=I.list h
 obtain⟨its',r',⟨o',n',e',_,_,d'⟩,_⟩:=I.list h'
 rw[e] at e';cases e'
 rw[d] at d'
 injection d' with d1 _
 have:hX=its':=by simpa using aa5 Array.toList d1
 subst this
 exact r.inj r'
theorem Inv.A1(I:Inv X c_ σ H s)(h:pk X.K H a xs)(h':pk X.K H a ys):xs=ys:=by
 obtain⟨hX,r,⟨o,e,_,n,d⟩,_⟩:=I.tuple h
 obtain⟨its',r',⟨o',e',_,n',d'⟩,_⟩:=I.tuple h'
 rw[e] at e';cases e'
 rw[d] at d'
 injection d' with d1 _
 have:hX=its':=by simpa using aa5 Array.toList d1
 subst this
 exact r.inj r'
end
noncomputable abbrev Cx.AB(X:Cx)(E:Qqq):Cx:={X with xe:=E}
noncomputable abbrev Cx.Qa(X:Cx):Cx:=X.AB fun _ _=>False
theorem Cx.Ok.AB{X:Cx}(ok:X.Ok)(E:Qqq):(X.AB E).Ok:=
 ⟨ok.mod,ok.kind,ok.glob,ok.blt,ok.above,ok.inj,ok.has,ok.L_,ok.hd,ok.frames,ok.MX,ok.P7,ok.bs,ok.Ie,ok.qZ,ok.ET,ok.sW,ok.Kq⟩
theorem Cx.Ok.q9{X:Cx}{E:Qqq}(ok:(X.AB E).Ok):X.Ok:=
 ⟨ok.mod,ok.kind,ok.glob,ok.blt,ok.above,ok.inj,ok.has,ok.L_,ok.hd,ok.frames,ok.MX,ok.P7,ok.bs,ok.Ie,ok.qZ,ok.ET,ok.sW,ok.Kq⟩
section
variable{X:Cx}{c_:Qqz}{σ:St}{H:Hp}{s:Shared}{E:Qqq}
theorem Inv.AB(I:Inv X c_ σ H s)(E:Qqq):Inv (X.AB E) c_ σ H s:=⟨I.ok.AB E,I.os,I.bare,I.base,I.loc,I.cell,I.free,I.mB,I.pin,I.iH,I.len⟩
theorem Inv.q9(I:Inv (X.AB E) c_ σ H s):Inv X c_ σ H s:=⟨I.ok.q9,I.os,I.bare,I.base,I.loc,I.cell,I.free,I.mB,I.pin,I.iH,I.len⟩
theorem SP.q9{D:Ends}{f:Flow}{s':Shared}(h:SP (X.AB E) c_ D f s'):SP X c_ D f s':=by
 cases f with
 | next=>obtain⟨σ',H',I,q⟩:=h;exact⟨σ',H',I.q9,q⟩
 | brk=>obtain⟨σ',H',I,q⟩:=h;exact⟨σ',H',I.q9,q⟩
 | cont=>obtain⟨σ',H',I,q⟩:=h;exact⟨σ',H',I.q9,q⟩
 | ret u=>obtain⟨v,σ',H',I,r,q⟩:=h;exact⟨v,σ',H',I.q9,r,q⟩
theorem C5.Qa{st:List Stmt}{t:TS}(h:C5 X.Qa st t):C5 X st t:=fun c_ s σ H D I hw=>
 abp (h c_ s σ H D (I.AB _) hw) (fun _ _ q=>q.q9) fun _ _ z=>False.elim z
end
section
variable{X:Cx}{st:Stmt}{rest:List Stmt}{t u:TS}{e:Expr}{te:TE}{pos:Pos}
def Mb:TS:=fun D σ H=>D.nx σ H
def iW(t u:TS):TS:=fun D σ H=>t {D with nx:=u D} σ H
theorem ia:C5 X [] Mb:=fun _ _ σ H _ I h=>wpAny_execs_nil ⟨σ,H,I,h⟩
theorem de(h1:PS X st t)(h2:C5 X rest u):C5 X (st::rest) (iW t u):=by
 intro c_ s σ H D I h
 refine wpAny_execs_cons (i3 (h1 c_ s σ H {D with nx:=u D} I h) fun f s1 q=>?_)
 cases f with
 | next=>
  obtain⟨σ',H',I',q⟩:=q
  exact h2 c_ s1 σ' H' D I' q
 | ret v=>exact q
 | brk=>exact q
 | cont=>exact q
theorem fO(h1:PS X st t):C5 X [st] t:=by
 intro c_ s σ H D I h
 refine wpAny_execs_cons (i3 (h1 c_ s σ H D I h) fun f s1 q=>?_)
 cases f with
 | next=>exact wpAny_execs_nil q
 | ret v=>exact q
 | brk=>exact q
 | cont=>exact q
def Qb:TS:=fun D σ H=>D.ct σ H
theorem Dc:PS X (.Continue pos) Qb:=fun _ _ σ H _ I h=>wpAny_Continue ⟨σ,H,I,h⟩
theorem Inv.quiet{c_:Qqz}{σ:St}{H:Hp}{s:Shared}(I:Inv X c_ σ H s):interactive X.env=false:=by simp[interactive,I.ok.kind]
def Qc(te:TE):TS:=fun D σ H=>te σ H fun _ H1=>D.nx σ H1
theorem hG(he:PE X e te)(hs:swapsWith e none pos.line X.env=pure false:=by rfl):PS X (.Expr e pos) (Qc te):=by
 intro c_ s σ H D I h
 exact wpAny_Expr_any (i3 (he c_ s σ H _ I h) fun v s1 ⟨x,H1,I1,r1,q1⟩=>⟨σ,H1,I1,q1⟩) I.quiet hs
def Ug(te:TE):TS:=fun D σ H=>te σ H D.rt
theorem h_(he:PE X e te):PS X (.Return (some e) pos) (Ug te):=by
 intro c_ s σ H D I h
 exact wpAny_Return_some (i3 (he c_ s σ H _ I h) fun v s1 ⟨x,H1,I1,r1,q1⟩=>⟨x,σ,H1,I1,r1,q1⟩)
def Uh(c:TT)(t u:TS):TS:=fun D σ H=>c σ H fun b H1=>if b=true then t D σ H1 else u D σ H1
theorem iE{c:Expr}{a b:List Stmt}{tc:TT}(hc:PT X c tc)(ha:C5 X a t)(hb:C5 X b u):PS X (.If c a b pos) (Uh tc t u):=by
 intro c_ s σ H D I h
 refine wpAny_If (i3 (hc c_ s σ H _ I h) fun d s1 ⟨H1,I1,q1⟩=>?_)
 cases d with
 | true=>exact ha c_ s1 σ H1 D I1 q1
 | false=>exact hb c_ s1 σ H1 D I1 q1
end
abbrev TG:=V→St→Hp→(St→Hp→Prop)→Prop
abbrev M3:=List V→St→Hp→(St→Hp→Prop)→Prop
def PG(X:Cx)(target:Expr)(t:TG):Prop:=
 ∀(c_:Qqz)(s:Shared)(σ:St)(H:Hp)(v:V)(u:Value)(Q:St→Hp→Prop),Inv X c_ σ H s→RelV v u→t v σ H Q→
  wpAny (model X.prog X.w) X.A (assign target X.env u) (fun _ s'=>∃σ' H',Inv X c_ σ' H' s'∧Q σ' H') X.xe s
def SY(X:Cx)(ts:List Expr)(t:M3):Prop:=
 ∀(c_:Qqz)(s:Shared)(σ:St)(H:Hp)(vs:List V)(us:List Value)(Q:St→Hp→Prop),Inv X c_ σ H s→Vals vs us→t vs σ H Q→
  wpAny (model X.prog X.w) X.A (assignInOrder ((assignEach ts X.env).map (·.2)) us) (fun _ s'=>∃σ' H',Inv X c_ σ' H' s'∧Q σ' H') X.xe s
abbrev M4:=V→V→V→Hp→(Hp→Prop)→Prop
def Qd(X:Cx)(t:M4):Prop:=
 ∀(c_:Qqz)(s:Shared)(σ:St)(H:Hp)(o i v:V)(ov iv u:Value)(Q:Hp→Prop),Inv X c_ σ H s→RelV o ov→RelV i iv→RelV v u→t o i v H Q→
  wpAny (model X.prog X.w) X.A (setItem ov iv u) (fun _ s'=>∃H',Inv X c_ σ H' s'∧Q H') X.xe s
section
variable{X:Cx}{pos:Pos}
def l6(i:Nat):TG:=fun v σ H Q=>Q (σ.set i (some v)) H
theorem iy{i:Nat}{x:Str}(hN:X.N.Nodup)(hi:X.N[i]?=some x)(hx:Loc X.env.scope x)(hf:X.fn x=true∨X.env.scope.names.lookup x=some .local:=by first|exact .inl rfl|exact .inr rfl|assumption):PG X (.Name x pos) (l6 i):=by
 intro c_ s σ H v u Q I r h
 exact wpAny_assign_Name (C9 I hN hi hx r (fun s' I'=>⟨_,H,I',h⟩) hf)
def Ui:M3:=fun vs σ H Q=>vs=[]∧Q σ H
def Qe(t:TG)(u:M3):M3:=fun vs σ H Q=>∃v r,vs=v::r∧t v σ H fun σ' H'=>u r σ' H' Q
theorem Gd:SY X [] Ui:=by
 intro c_ s σ H vs us Q I r h
 obtain⟨e,h⟩:=h
 subst e
 cases r
 exact assignInOrder_nil ⟨σ,H,I,h⟩
theorem uI{e:Expr}{es:List Expr}{t:TG}{u:M3}(h1:PG X e t)(h2:SY X es u)
  (hs:(assignEach (e::es) X.env).map (·.2)=assign e X.env::(assignEach es X.env).map (·.2):=by rfl):SY X (e::es) (Qe t u):=by
 intro c_ s σ H vs us Q I r h
 obtain⟨v,vr,e1,h⟩:=h
 subst e1
 cases r with
 | cons r rr=>
  rw[hs]
  refine assignInOrder_cons (i3 (h1 c_ s σ H _ _ _ I r h) fun _ s1 ⟨σ1,H1,I1,q1⟩=>?_)
  exact h2 c_ s1 σ1 H1 _ _ Q I1 rr q1
def Uj(K:Qqy)(n:Nat)(t:M3):TG:=fun v σ H Q=>∃a xs,v=.ref a∧pk K H a xs∧xs.length=n∧t xs σ H Q
theorem Ih{es:List Expr}{k:Nat}{t:M3}{n:Nat}(hc:X.calm=true)(h:SY X es t)
  (hn:(assignEach es X.env).length=n:=by rfl) (yt:(assignEach es X.env).findIdx? (·.1)=none:=by rfl):PG X (.Tuple es k pos) (Uj X.K n t):=by
 intro c_ s σ H v u Q I r hw
 obtain⟨a,xs,e1,hq,hl,hw⟩:=hw
 subst e1
 cases r
 obtain⟨hX,rv,ht,hz⟩:=I.tuple hq
 refine assign_Tuple_tuple (I.ok.hd hc) ht (by simp[hn,←hl,rv.length]) yt fun h' hx=>?_
 have I1:Inv X c_ σ H {s with heap:=h'}:=I.kept (t':=s.toks) fun b o e=>hx b o (aaW (aax e)) e
 exact h c_ _ σ H xs _ Q I1 (by simpa using rv) hw
def Uk(to ti:TE)(t:M4):TG:=fun v σ H Q=>to σ H fun o H1=>ti σ H1 fun i H2=>t o i v H2 fun H3=>Q σ H3
theorem BI{o i:Expr}{to ti:TE}{t:M4}(ho:PE X o to)(hi:PE X i ti)(hs:Qd X t)
  (ha:∀v,assign (.Subscript o i pos) X.env v=(do
   let ov ←holding [v] (eval o X.env)
   let iv ←holding [v,ov] (eval i X.env)
   standAt pos
   holding [v,ov,iv] (setItem ov iv v)
   release [v,ov,iv] []):=by intro _;rfl):PG X (.Subscript o i pos) (Uk to ti t):=by
 intro c_ s σ H v u Q I r h
 rw[ha]
 refine UP (abG (i3 (ho c_ s σ H _ I h) fun ov s1 ⟨x,H1,I1,r1,q1⟩=>?_))
 refine UP (abG (i3 (hi c_ s1 σ H1 _ I1 q1) fun iv s2 ⟨y,H2,I2,r2,q2⟩=>?_))
 refine UP (wpAny_standAt (UP (abG (i3 (hs c_ s2 σ H2 x y v ov iv u _ I2 r1 r2 r q2) fun _ s3 ⟨H3,I3,q3⟩=>?_))))
 exact wpAny_release ⟨σ,H3,I3,q3⟩
def Ii(te:TE)(g:TG):TS:=fun D σ H=>te σ H fun x H1=>g x σ H1 D.nx
theorem BJ{tg e:Expr}{te:TE}{g:TG}(he:PE X e te)(hg:PG X tg g)(hs:swapsWithSole [tg] e pos.line X.env=pure false:=by rfl)(hw:swappedStores [tg] e X.env=pure none:=by rfl)
  (h1:(assignEach [tg] X.env).map (·.2)=[assign tg X.env]:=by rfl):PS X (.Assign [tg] e pos) (Ii te g):=by
 intro c_ s σ H D I h
 refine wpAny_Assign_stores (i3 (he c_ s σ H _ I h) fun v s1 ⟨x,H1,I1,r1,q1⟩=>?_) hs hw
 rw[h1]
 exact i3 (hg c_ s1 σ H1 x v _ I1 r1 q1) fun _ s2 q=>q
theorem lE{i:Nat}{x:Str}{e:Expr}{te:TE}{pos':Pos}(hN:X.N.Nodup)(hi:X.N[i]?=some x)(hx:Loc X.env.scope x)(he:PE X e te)(hs:swapsWith e (some (.Name x pos')) pos.line X.env=pure false:=by rfl)(hf:X.fn x=true∨X.env.scope.names.lookup x=some .local:=by first|exact .inl rfl|exact .inr rfl|assumption) :
  PS X (.Assign [.Name x pos'] e pos) (Ii te (l6 i)):=by
 intro c_ s σ H D I h
 refine wpAny_Assign_Name (i3 (he c_ s σ H _ I h) fun v s1 ⟨y,H1,I1,r1,q1⟩=>?_) hs
 exact C9 I1 hN hi hx r1 (fun s2 I2=>⟨_,H1,I2,q1⟩) hf
def M5(c:TT)(tb:TS):TS:=fun D σ H=>∃W:Nat→St→Hp→Prop,(∃m,W m σ H)∧∀m σ H,W m σ H→
 c σ H fun b H1=>if b=true then ∃N:St→Hp→Prop,(∀σ' H',N σ' H'→∃m',m'<m∧W m' σ' H')∧tb {D with nx:=N,ct:=N,bk:=D.nx} σ H1 else D.nx σ H1
theorem Dd{c:Expr}{body:List Stmt}{tc:TT}{tb:TS}(hp:PassesOwn (model X.prog X.w) X.A X.env X.xe)(hc:PT X c tc)(hb:C5 X body tb):PS X (.While c body [] pos) (M5 tc tb):=by
 intro c_ s σ H D I h
 obtain⟨W,⟨m0,w0⟩,turn⟩:=h
 refine wpAny_While (codeAny_whileLoop (fun n s'=>∃σ' H',Inv X c_ σ' H' s'∧W n σ' H') ?_ m0 ⟨σ,H,I,w0⟩)
 rintro n s1 ⟨σ1,H1,I1,w1⟩
 refine abV hp (i3 (hc c_ s1 σ1 H1 _ I1 (turn n σ1 H1 w1)) fun b s2 ⟨H2,I2,q2⟩=>?_)
 cases b with
 | true=>
  obtain⟨N,hN,q2⟩:=q2
  rw[aas rfl]
  refine abV hp (i3 (hb c_ s2 σ1 H2 _ I2 q2) fun f s3 q3=>?_)
  cases f with
  | next=>
   obtain⟨σ3,H3,I3,n3⟩:=q3
   obtain⟨m',hm,w3⟩:=hN σ3 H3 n3
   exact⟨m',hm,σ3,H3,I3,w3⟩
  | cont=>
   obtain⟨σ3,H3,I3,n3⟩:=q3
   obtain⟨m',hm,w3⟩:=hN σ3 H3 n3
   exact⟨m',hm,σ3,H3,I3,w3⟩
  | brk=>exact q3
  | ret v=>exact q3
 | false=>
  rw[aan aai]
  exact wpAny_execs_nil ⟨σ1,H2,I2,q2⟩
end
structure It where
 go:Nat→Hp→Prop
 Ij:Nat→Hp→V→Hp→Prop
 stop:Nat→Hp→Prop
def tX(X:Cx)(c_:Qqz)(H:Hp)(b:Addr):Prop:=
 H b=none∧b≠X.env.locals∧b∉X.fs∧(b∈X.ex∨X.s₀.heap.objs.size≤b)∧(∀x c,X.env.cells.lookup x=some c→c≠b)∧∀p∈X.pn++c_,p.1≠b
theorem Inv.yf{X:Cx}{c_:Qqz}{σ:St}{H H':Hp}{s:Shared}{b:Addr}(I:Inv X c_ σ H s)(hb:s.heap.objs.size≤b)(hn:H' b=none):tX X c_ H' b:=by
 refine⟨hn,Nat.ne_of_gt (aaE I.lt hb),I.P8 hb,.inr (aad I.sz hb),fun x c e z=>?_,fun p hp z=>?_⟩
 ·obtain⟨v,q⟩:=I.cell x c e
  exact absurd (aaE q.lt (by rw[z];exact hb)) (abm _)
 ·exact absurd (aaE (aax (I.pin p hp).1) (by rw[z];exact hb)) (abm _)
structure Turn(P:Program)(w:World)(K:Qqy)(tg:Expr)(J:It)(fp:List Addr)(it:Addr)(tn:Nat→Heap→Prop):Prop where
 mem:it∈fp
 obj:∀i h,tn i h→∀b∈fp,∃o,h.get? b=some o∧∀v,o.data≠.cell v
 keep:∀i h h',tn i h→(∀b∈fp,∀o,h.get? b=some o→h'.get? b=some o)→tn i h'
 item:∀(X:Cx),X.prog=P→X.w=w→X.K=K→X.calm=true→∀(i:Nat)(c_:Qqz)(s:Shared)(σ:St)(H:Hp)(E:Qqq),Inv X c_ σ H s→(∀b∈fp,tX X c_ H b)→tn i s.heap→J.go i H→
  wpAny (model P w) X.A (pyNext (.ref it)) (fun r s1=>∃u,r=some u∧
   wpAny (model P w) X.A (letOwnedTupleGo tg (.ref it) u) (fun _ s2=>∃x H',Inv X c_ σ H' s2∧RelV x u∧J.Ij i H x H'∧tn (i+1) s2.heap∧∀b∈fp,H' b=none) E s1) E s
 done:∀(X:Cx),X.prog=P→X.w=w→X.K=K→X.calm=true→∀(i:Nat)(c_:Qqz)(s:Shared)(σ:St)(H:Hp)(E:Qqq),Inv X c_ σ H s→(∀b∈fp,tX X c_ H b)→tn i s.heap→J.stop i H→
  wpAny (model P w) X.A (pyNext (.ref it)) (fun r s1=>r=none∧Inv X c_ σ H s1) E s
 self:∀(A:Around)(i:Nat)(s:Shared)(Q:Qqq)(E:Qqq),tn i s.heap→Q (.ref it) s→wpAny (model P w) A (pyIter (.ref it)) Q E s
abbrev TI:=St→Hp→(It→Hp→Prop)→Prop
def Ul(X:Cx)(c_:Qqz)(σ:St)(tg:Expr)(R:It→Hp→Prop)(Ta:Value)(s2:Shared):Prop:=
 ∃(it:Addr)(fp:List Addr)(tn:Nat→Heap→Prop)(J:It)(H':Hp),Ta=.ref it∧Inv X c_ σ H' s2∧Turn X.prog X.w X.K tg J fp it tn∧tn 0 s2.heap∧(∀b∈fp,tX X c_ H' b)∧R J H'
def PI(X:Cx)(tg iter:Expr)(wi:TI):Prop:=
 ∀(c_:Qqz)(s:Shared)(σ:St)(H:Hp)(R:It→Hp→Prop),Inv X c_ σ H s→wi σ H R→
  wpAny (model X.prog X.w) X.A (eval iter X.env) (fun v s1=>wpAny (model X.prog X.w) X.A (pyIter v) (Ul X c_ σ tg R) X.xe s1) X.xe s
theorem xc{M:Model}{A:Around}{E:Qqq}{s:Shared}{tg:Expr}{it:Addr}{u:Value}{o:Obj}{n:String}{vs:Array Value}{Q:Unit→Shared→Prop}(ho:s.heap.get? it=some o)(hc:o.cls=.type n)(hd:o.data=.fields vs)
  (hn:["enumerate","zip","dict_itemiterator","dict_reverseitemiterator","odict_iterator","itertools.zip_longest","itertools.pairwise"].contains n=false) (hQ:Q () s):wpAny M A (letOwnedTupleGo tg (.ref it) u) Q E s:=by
 unfold letOwnedTupleGo
 cases tg<;>first
  | exact aab hQ
  | (cases u<;>first
   | exact aab hQ
   | (
    refine UP (wpAny_load ho ?_)
    rw[hc,hd]
    show wpAny M A (if(["enumerate","zip","dict_itemiterator","dict_reverseitemiterator","odict_iterator","itertools.zip_longest","itertools.pairwise"].contains n&&vs[0]? ==some (rawInt _))=true then _ else _) Q E s
    rw[aan (by intro h;rw[hn,Bool.false_and] at h;cases h)]
    exact aab hQ))
noncomputable def Pn(K:Qqy)(a:Addr):It:=
 ⟨fun i H=>∃xs x,hV K H a xs∧xs[i]?=some x,fun i H x H'=>H'=H∧∀xs,hV K H a xs→xs[i]?=some x,fun i H=>∃xs,hV K H a xs∧xs.length≤i⟩
noncomputable def Um(K:Qqy)(a:Addr):It:=
 ⟨fun i H=>∃xs x,pk K H a xs∧xs[i]?=some x,fun i H x H'=>H'=H∧∀xs,pk K H a xs→xs[i]?=some x,fun i H=>∃xs,pk K H a xs∧xs.length≤i⟩
noncomputable def Mc(lo:Int)(n:Nat):It:=⟨fun i _=>i<n,fun i H x H'=>H'=H∧x=.int (lo+i),fun i _=>n≤i⟩
theorem GZ{P:Program}{w:World}{K:Qqy}{tg:Expr}(a it:Addr):Turn P w K tg (Pn K a) [it] it (fun i h=>h.IsListIter it a i) where
 mem:=by simp
 obj:=fun i h st b hb=>by
  have e:b=it:=by simpa using hb
  subst e
  obtain⟨o,e,c,d⟩:=st
  exact⟨o,e,fun v z=>by rw[d] at z;cases z⟩
 keep:=fun i h h' st k=>st.at fun o e=>k it (by simp) o e
 item:=by
  intro X hP hw hK hc i c_ s σ H E I hf st hg
  subst hP hw hK
  obtain⟨xs,x,hq,hx⟩:=hg
  obtain⟨hX,rv,p,hz⟩:=I.list hq
  obtain⟨u,hu,ru⟩:=rv.get hx
  obtain⟨f0,f1,f2,f3,f4,f5⟩:=hf it (by simp)
  refine wpAny_pyNext_list_item st p.isList (x:=u) (by simpa using hu) fun h' yP sb=>?_
  have I1:Inv X c_ σ H {s with heap:=h'}:=I.turned (t':=s.toks) (fun b o hb e=>(sb.2 b hb).trans e) f0 f1 f3 f4 f5
  obtain⟨o,e,c,d⟩:=id yP
  exact⟨u,rfl,xc (s:={s with heap:=h'}) e c d (by decide) ⟨x,H,I1,ru,⟨rfl,fun ys hy=>by rw[I.pw hy hq];exact hx⟩,yP,fun b hb=>(hf b hb).1⟩⟩
 done:=by
  intro X hP hw hK hc i c_ s σ H E I hf st hg
  subst hP hw hK
  obtain⟨xs,hq,hx⟩:=hg
  obtain⟨hX,rv,p,hz⟩:=I.list hq
  obtain⟨f0,f1,f2,f3,f4,f5⟩:=hf it (by simp)
  have hl:=rv.length
  exact wpAny_pyNext_list_end (I.ok.hd hc) st p.isList (by simp;omega) fun h' eb=>⟨rfl,I.turned (t':=s.toks) (fun b o hb e=>eb b o hb e) f0 f1 f3 f4 f5⟩
 self:=fun _ _ _ _ _ st h=>wpAny_pyIter_listiter st h
theorem EU{P:Program}{w:World}{K:Qqy}{tg:Expr}(a it:Addr):Turn P w K tg (Um K a) [it] it (fun i h=>h.IsTupleIter it a i) where
 mem:=by simp
 obj:=fun i h st b hb=>by
  have e:b=it:=by simpa using hb
  subst e
  obtain⟨o,e,c,d⟩:=st
  exact⟨o,e,fun v z=>by rw[d] at z;cases z⟩
 keep:=fun i h h' st k=>st.at fun o e=>k it (by simp) o e
 item:=by
  intro X hP hw hK hc i c_ s σ H E I hf st hg
  subst hP hw hK
  obtain⟨xs,x,hq,hx⟩:=hg
  obtain⟨hX,rv,p,hz⟩:=I.tuple hq
  obtain⟨u,hu,ru⟩:=rv.get hx
  obtain⟨f0,f1,f2,f3,f4,f5⟩:=hf it (by simp)
  refine wpAny_pyNext_tuple_item st (show s.heap.IsTuple a hX.toArray from p) (x:=u) (by simpa using hu) fun h' yP sb=>?_
  have I1:Inv X c_ σ H {s with heap:=h'}:=I.turned (t':=s.toks) (fun b o hb e=>(sb.2 b hb).trans e) f0 f1 f3 f4 f5
  obtain⟨o,e,c,d⟩:=id yP
  exact⟨u,rfl,xc (s:={s with heap:=h'}) e c d (by decide) ⟨x,H,I1,ru,⟨rfl,fun ys hy=>by rw[I.A1 hy hq];exact hx⟩,yP,fun b hb=>(hf b hb).1⟩⟩
 done:=by
  intro X hP hw hK hc i c_ s σ H E I hf st hg
  subst hP hw hK
  obtain⟨xs,hq,hx⟩:=hg
  obtain⟨hX,rv,p,hz⟩:=I.tuple hq
  obtain⟨f0,f1,f2,f3,f4,f5⟩:=hf it (by simp)
  have hl:=rv.length
  exact wpAny_pyNext_tuple_end (I.ok.hd hc) st (show s.heap.IsTuple a hX.toArray from p) (by simp;omega) fun h' eb=>⟨rfl,I.turned (t':=s.toks) (fun b o hb e=>eb b o hb e) f0 f1 f3 f4 f5⟩
 self:=fun _ _ _ _ _ st h=>wpAny_pyIter_tupleiter st h
theorem EV{P:Program}{w:World}{K:PySem.W.Frag}{tg:Expr}(it:Addr)(lo:Int)(n:Nat):Turn P w K tg (Mc lo n) [it] it (fun i h=>IsRangeIter h it (lo+(i:Nat)*1) ((n:Int)-(i:Nat)) 1) where
 mem:=by simp
 obj:=fun i h st b hb=>by
  have e:b=it:=by simpa using hb
  subst e
  exact⟨_,st,fun v z=>by
   have z':Data.fields _=Data.cell v:=z
   cases z'⟩
 keep:=fun i h h' st k=>k it (by simp) _ st
 item:=by
  intro X hP hw hK hc i c_ s σ H E I hf st hg
  subst hP hw hK
  obtain⟨f0,f1,f2,f3,f4,f5⟩:=hf it (by simp)
  have W:=Walks.range (prog:=X.prog) (w:=X.w) (I.ok.hd hc) it lo 1 n
  refine W.item i s _ _ hg st fun v h' tk hv yP kk=>?_
  obtain⟨t,rfl⟩:=hv
  have I1:Inv X c_ σ H {s with heap:=h',toks:=tk}:=I.turned (fun b o hb e=>kk b o (by simpa using hb) e) f0 f1 f3 f4 f5
  refine⟨_,rfl,xc (s:={s with heap:=h',toks:=tk}) (n:="range_iterator") yP rfl rfl (by decide) ⟨.int (lo+i),H,I1,⟨t,?_⟩,⟨rfl,rfl⟩,yP,fun b hb=>(hf b hb).1⟩⟩
  rw[Int.mul_one]
 done:=by
  intro X hP hw hK hc i c_ s σ H E I hf st hg
  subst hP hw hK
  obtain⟨f0,f1,f2,f3,f4,f5⟩:=hf it (by simp)
  exact wpAny_pyNext_range_end (I.ok.hd hc) st (by have:n≤i:=hg;omega) fun h' eb=>⟨rfl,I.turned (t':=s.toks) (fun b o hb e=>eb b o hb e) f0 f1 f3 f4 f5⟩
 self:=fun _ _ _ _ _ st h=>wpAny_pyIter_rangeiter st h
section
variable{X:Cx}{tg:Expr}
def Qf(K:Qqy)(tl:TE):TI:=fun σ H R=>tl σ H fun x H1=>∃a,x=.ref a∧(∃xs,hV K H1 a xs)∧R (Pn K a) H1
def Uo(K:Qqy)(tl:TE):TI:=fun σ H R=>tl σ H fun x H1=>∃a,x=.ref a∧(∃xs,pk K H1 a xs)∧R (Um K a) H1
theorem ie{l:Expr}{tl:TE}(hl:PE X l tl):PI X tg l (Qf X.K tl):=by
 intro c_ s σ H R I h
 refine i3 (hl c_ s σ H _ I h) fun v s1 ⟨x,H1,I1,r1,q1⟩=>?_
 obtain⟨a,e,⟨xs,hq⟩,q⟩:=q1
 subst e
 cases r1
 obtain⟨hX,rv,p,hz⟩:=I1.list hq
 refine wpAny_pyIter_list p.isList ?_
 refine⟨s1.heap.objs.size,[s1.heap.objs.size],_,_,H1,rfl,I1.kept (t':=s1.toks) fun b o e=>aac _ e,GZ a _,⟨_,aaz _ rfl,rfl,rfl⟩,fun b hb=>?_,q⟩
 have e:b=s1.heap.objs.size:=by simpa using hb
 subst e
 exact I1.yf (U0 _) (I1.iH.fresh (U0 _))
theorem M6{l:Expr}{tl:TE}(hl:PE X l tl):PI X tg l (Uo X.K tl):=by
 intro c_ s σ H R I h
 refine i3 (hl c_ s σ H _ I h) fun v s1 ⟨x,H1,I1,r1,q1⟩=>?_
 obtain⟨a,e,⟨xs,hq⟩,q⟩:=q1
 subst e
 cases r1
 obtain⟨hX,rv,p,hz⟩:=I1.tuple hq
 refine wpAny_pyIter_tuple (show s1.heap.IsTuple a hX.toArray from p) ?_
 refine⟨s1.heap.objs.size,[s1.heap.objs.size],_,_,H1,rfl,I1.kept (t':=s1.toks) fun b o e=>aac _ e,EU a _,⟨_,aaz _ rfl,rfl,rfl⟩,fun b hb=>?_,q⟩
 have e:b=s1.heap.objs.size:=by simpa using hb
 subst e
 exact I1.yf (U0 _) (I1.iH.fresh (U0 _))
theorem De{c_:Qqz}{σ:St}{H:Hp}{s:Shared}{R:It→Hp→Prop}{E:Qqq}{lo hi:Int}{t u v:Tok}{tk:Nat}(I:Inv X c_ σ H s)(h1:-(2 ^ 62)≤lo)(h2:lo<2 ^ 62)(h3:-(2 ^ 62)≤hi)(h4:hi<2 ^ 62)
  (q:R (Mc lo (hi-lo).toNat) H):wpAny (model X.prog X.w) X.A (pyIter (.ref s.heap.objs.size)) (Ul X c_ σ tg R) E {s with heap:=s.heap.push {cls:=.type "range",data:=.fields #[.int lo t,.int hi u,.int 1 v]},toks:=tk}:=by
 refine wpAny_pyIter_range (IsRange.new ..) (small_one h1 h2 h3 h4) ?_
 have I1:Inv X c_ σ H {s with heap:=s.heap.push {cls:=.type "range",data:=.fields #[.int lo t,.int hi u,.int 1 v]},toks:=tk}:=I.kept fun b o e=>aac _ e
 refine⟨(s.heap.push {cls:=.type "range",data:=.fields #[.int lo t,.int hi u,.int 1 v]}).objs.size,[(s.heap.push {cls:=.type "range",data:=.fields #[.int lo t,.int hi u,.int 1 v]}).objs.size],_,_,H,rfl,
  I1.kept (t':=tk) fun b o e=>aac _ e,EV _ lo (hi-lo).toNat,?_,fun b hb=>?_,q⟩
 ·have e1:lo+((0:Nat):Int)*1=lo:=by simp
  have e2:(((hi-lo).toNat:Nat):Int)-((0:Nat):Int)=Builtin.Range.rangeSize lo hi 1:=by rw[rangeSize_one];split<;>omega
  show IsRangeIter _ _ (lo+((0:Nat):Int)*1) ((((hi-lo).toNat:Nat):Int)-((0:Nat):Int)) 1
  rw[e1,e2]
  exact aaz _ rfl
 ·have e:b=(s.heap.push {cls:=.type "range",data:=.fields #[.int lo t,.int hi u,.int 1 v]}).objs.size:=by simpa using hb
  subst e
  exact I1.yf (U0 _) (I1.iH.fresh (U0 _))
def Qg(ta:TA):TI:=fun σ H R=>ta σ H fun vs H1=>∃j:Int,vs=[.int j]∧-(2 ^ 62)≤j∧j<2 ^ 62∧R (Mc 0 j.toNat) H1
def Qh(ta:TA):TI:=fun σ H R=>ta σ H fun vs H1=>∃i j:Int,vs=[.int i,.int j]∧(-(2 ^ 62)≤i∧i<2 ^ 62∧-(2 ^ 62)≤j∧j<2 ^ 62)∧R (Mc i (j-i).toNat) H1
theorem lu{a:Expr}{ta:TA}{p pos:Pos}(hg:Gl X "range")(hm:X.mg "range"=none)(ha:PA X [a] ta)(hs:starEach [a] X.env=[(false,eval a X.env)]:=by rfl):PI X tg (.Call (.Name "range" p) [a] [] pos) (Qg ta):=by
 intro c_ s σ H R I h
 refine Call_ (o4 I hg hm boot_range (aa0 (i3 (ha pos c_ s σ H _ I h) fun us s1 ⟨vs,H1,I1,r1,q1⟩=>?_) hs rfl))
 obtain⟨j,e,q1,q2,q⟩:=q1
 subst e
 cases r1 with
 | cons r rr=>
  cases rr
  obtain⟨t,rfl⟩:=r
  exact call_range_1 (De I1 (by omega) (by omega) q1 q2 (by simpa using q))
theorem A2{a b:Expr}{ta:TA}{p pos:Pos}(hg:Gl X "range")(hm:X.mg "range"=none)(ha:PA X [a,b] ta)(hs:starEach [a,b] X.env=[(false,eval a X.env),(false,eval b X.env)]:=by rfl)(HZ:starEach [b] X.env=[(false,eval b X.env)]:=by rfl) :
  PI X tg (.Call (.Name "range" p) [a,b] [] pos) (Qh ta):=by
 intro c_ s σ H R I h
 refine Call_ (o4 I hg hm boot_range (aa0 (i3 (ha pos c_ s σ H _ I h) fun us s1 ⟨vs,H1,I1,r1,q1⟩=>?_) (by rw[hs,HZ]) (by rw[HZ];rfl)))
 obtain⟨i,j,e,⟨q1,q2,q3,q4⟩,q⟩:=q1
 subst e
 cases r1 with
 | cons r rr=>
  cases rr with
  | cons r' rr=>
   cases rr
   obtain⟨t,rfl⟩:=r
   obtain⟨t',rfl⟩:=r'
   exact call_range_2 (De I1 q1 q2 q3 q4 q)
def Ik(wi:TI)(g:TG)(tb:TS):TS:=fun D σ H=>wi σ H fun J H1=>∃W:Nat→Nat→St→Hp→Prop,(∃m,W 0 m σ H1)∧∀i m σ H,W i m σ H→
 (J.stop i H∧D.nx σ H)∨(J.go i H∧∃N:St→Hp→Prop,(∀σ' H',N σ' H'→∃m',m'<m∧W (i+1) m' σ' H')∧∀x H',J.Ij i H x H'→g x σ H' fun σ2 H2=>tb {D with nx:=N,ct:=N,bk:=D.nx} σ2 H2)
noncomputable def yR(fp:List Addr)(h:Heap):Qqz:=fp.filterMap fun b=>(h.get? b).map fun o=>(b,o)
theorem p0{fp:List Addr}{h:Heap}{b:Addr}{o:Obj}(hb:b∈fp)(e:h.get? b=some o):(b,o)∈yR fp h:=ab4.mpr ⟨b,hb,by rw[e];rfl⟩
theorem G0{fp:List Addr}{h:Heap}{p:Addr×Obj}(hp:p∈yR fp h):p.1∈fp∧h.get? p.1=some p.2:=by
 obtain⟨b,hb,e⟩:=ab4.mp hp
 cases q:h.get? b with
 | none=>rw[q] at e;cases e
 | some o=>
  rw[q] at e
  have e':(b,o)=p:=aaD e
  subst e'
  exact⟨hb,q⟩
theorem Inv.pinned{c_:Qqz}{σ:St}{H:Hp}{s:Shared}{fp:List Addr}(I:Inv X c_ σ H s)(hf:∀b∈fp,tX X c_ H b)(ho:∀b∈fp,∃o,s.heap.get? b=some o∧∀v,o.data≠.cell v):Inv X (c_++yR fp s.heap) σ H s:=
 I.yD fun p hp=>(XX.mp hp).elim (fun z=>I.pin p (aaL _ z)) fun z=>by
  obtain⟨hb,e⟩:=G0 z
  obtain⟨f0,f1,f2,_⟩:=hf p.1 hb
  obtain⟨o,e',d⟩:=ho p.1 hb
  rw[e] at e';cases e'
  exact⟨e,f0,f1,f2,d⟩
theorem Inv.uJ{c_ pl:Qqz}{σ:St}{H:Hp}{s:Shared}(I:Inv X (c_++pl) σ H s):Inv X c_ σ H s:=I.yD fun p hp=>I.pin p (aaL _ (aat _ hp))
theorem iC{iter:Expr}{body:List Stmt}{wi:TI}{g:TG}{tb:TS}{pos:Pos}(hp:PassesOwn (model X.prog X.w) X.A X.env X.xe)(hc:X.calm=true)(hi:PI X tg iter wi)(hg:PG X tg g)(hb:C5 X body tb)
  (hs:∀x,foldedSetIterable iter X.env x=pure x:=by intro _;rfl):PS X (.For tg iter body [] pos) (Ik wi g tb):=by
 intro c_ s σ H D I h
 refine wpAny_For (i3 (hi c_ s σ H _ I h) fun v s1 h1=>i3 h1 fun Ta s2 h2=>?_) hs
 obtain⟨it,fp,tn,J,H2,e,I2,T,AU,f2,W,⟨m0,w0⟩,turn⟩:=h2
 subst e
 have OF:∀{H':Hp},(∀b∈fp,H' b=none)→∀b∈fp,tX X c_ H' b:=fun hn b hb=>⟨hn b hb,(f2 b hb).2⟩
 refine codeAny_forLoop_any (fun n s'=>∃i σ' H',Inv X c_ σ' H' s'∧tn i s'.heap∧(∀b∈fp,H' b=none)∧W i n σ' H') ?_ m0 ⟨0,σ,H2,I2,AU,fun b hb=>(f2 b hb).1,w0⟩
 rintro n s3 ⟨i,σ3,H3,I3,vV,Q_,w3⟩
 rcases turn i n σ3 H3 w3 with⟨stop,qn⟩|⟨go,N,hN,step⟩
 ·refine abV hp (i3 (T.done X rfl rfl rfl hc i c_ s3 σ3 H3 X.xe I3 (OF Q_) vV stop) fun r s4 ⟨hr,I4⟩=>?_)
  subst hr
  exact wpAny_execs_nil ⟨σ3,H3,I4,qn⟩
 ·refine abV hp (i3 (T.item X rfl rfl rfl hc i c_ s3 σ3 H3 X.xe I3 (OF Q_) vV go) fun r s4 ⟨u,hr,h4⟩=>?_)
  subst hr
  refine abV hp (i3 h4 fun _ s5 ⟨x,H5,I5,r5,y5,OG,Vf⟩=>?_)
  have Vg:=I5.pinned (OF Vf) (T.obj _ _ OG)
  refine abV hp (i3 (hg _ s5 σ3 H5 x u _ Vg r5 (step x H5 y5)) fun _ s6 ⟨σ6,H6,I6,q6⟩=>?_)
  refine abV hp (i3 (hb _ s6 σ6 H6 _ I6 q6) fun f s7 q7=>?_)
  have again:∀{σ7:St} {H7:Hp},Inv X (c_++yR fp s5.heap) σ7 H7 s7→N σ7 H7→∃m,m<n∧∃i σ' H',Inv X c_ σ' H' s7∧tn i s7.heap∧(∀b∈fp,H' b=none)∧W i m σ' H':=fun{σ7 H7} I7 n7=>by
   obtain⟨m',hm,w7⟩:=hN σ7 H7 n7
   refine⟨m',hm,i+1,σ7,H7,I7.uJ,T.keep _ _ _ OG fun b hb o e=>(I7.pin (b,o) (aaL _ (aaL _ (p0 hb e)))).1,fun b hb=>?_,w7⟩
   obtain⟨o,e,d⟩:=T.obj _ _ OG b hb
   exact(I7.pin (b,o) (aaL _ (aaL _ (p0 hb e)))).2.1
  cases f with
  | next=>obtain⟨σ7,H7,I7,n7⟩:=q7;exact again I7 n7
  | cont=>obtain⟨σ7,H7,I7,n7⟩:=q7;exact again I7 n7
  | brk=>obtain⟨σ7,H7,I7,q7⟩:=q7;exact⟨σ7,H7,I7.uJ,q7⟩
  | ret v=>obtain⟨x7,σ7,H7,I7,r7,q7⟩:=q7;exact⟨x7,σ7,H7,I7.uJ,r7,q7⟩
end
theorem iQ{K:PySem.W.Frag}{a:Addr}{xs:List V}{g:TG}{tb:TS}{D:Ends}{σ:St}{H:Hp}(Pv:Nat→St→Hp→Prop)(h0:Pv 0 σ H)(hl:∀i σ H,i≤xs.length→Pv i σ H→hV K H a xs)
  (hs:∀i x σ H,xs[i]?=some x→Pv i σ H→g x σ H fun σ2 H2=>tb {D with nx:=Pv (i+1),ct:=Pv (i+1),bk:=D.nx} σ2 H2) (hd:∀σ H,Pv xs.length σ H→D.nx σ H) :
  ∃W:Nat→Nat→St→Hp→Prop,(∃m,W 0 m σ H)∧∀i m σ H,W i m σ H→
   ((Pn K a).stop i H∧D.nx σ H)∨((Pn K a).go i H∧∃N:St→Hp→Prop,(∀σ' H',N σ' H'→∃m',m'<m∧W (i+1) m' σ' H')∧∀x H',(Pn K a).Ij i H x H'→g x σ H' fun σ2 H2=>tb {D with nx:=N,ct:=N,bk:=D.nx} σ2 H2):=by
 refine⟨fun i m σ H=>m=xs.length-i∧i≤xs.length∧Pv i σ H,⟨xs.length,by simp,aaK _,h0⟩,?_⟩
 rintro i m σ H ⟨rfl,hi,p⟩
 have q:=hl i σ H hi p
 by_cases lq:i<xs.length
 ·refine .inr ⟨⟨xs,xs[i],q,by simp[lq]⟩,Pv (i+1),fun σ' H' p'=>⟨xs.length-(i+1),by omega,rfl,lq,p'⟩,fun x H' y=>?_⟩
  obtain⟨e,y⟩:=y
  subst e
  exact hs i x σ _ (y xs q) p
 ·have e:i=xs.length:=by omega
  subst e
  exact .inl ⟨⟨xs,q,U0 _⟩,hd σ H p⟩
theorem nN{lo:Int}{n:Nat}{g:TG}{tb:TS}{D:Ends}{σ:St}{H:Hp}(Pv:Nat→St→Hp→Prop)(h0:Pv 0 σ H)
  (hs:∀i σ H,i<n→Pv i σ H→g (.int (lo+i)) σ H fun σ2 H2=>tb {D with nx:=Pv (i+1),ct:=Pv (i+1),bk:=D.nx} σ2 H2) (hd:∀σ H,Pv n σ H→D.nx σ H) :
  ∃W:Nat→Nat→St→Hp→Prop,(∃m,W 0 m σ H)∧∀i m σ H,W i m σ H→
   ((Mc lo n).stop i H∧D.nx σ H)∨((Mc lo n).go i H∧∃N:St→Hp→Prop,(∀σ' H',N σ' H'→∃m',m'<m∧W (i+1) m' σ' H')∧∀x H',(Mc lo n).Ij i H x H'→g x σ H' fun σ2 H2=>tb {D with nx:=N,ct:=N,bk:=D.nx} σ2 H2):=by
 refine⟨fun i m σ H=>m=n-i∧i≤n∧Pv i σ H,⟨n,by simp,aaK _,h0⟩,?_⟩
 rintro i m σ H ⟨rfl,hi,p⟩
 by_cases lq:i<n
 ·refine .inr ⟨lq,Pv (i+1),fun σ' H' p'=>⟨n-(i+1),by omega,rfl,lq,p'⟩,fun x H' y=>?_⟩
  obtain⟨e,y⟩:=y
  subst e y
  exact hs i σ _ lq p
 ·have e:i=n:=by omega
  subst e
  exact .inl ⟨U0 _,hd σ H p⟩
abbrev R2:=V→V→Hp→VK→Prop
def vW(X:Cx)(f:Value→Value→Sem Value)(r:R2):Prop:=
 ∀(c_:Qqz)(s:Shared)(σ:St)(H:Hp)(x y:V)(v u:Value)(Q:VK),Inv X c_ σ H s→RelV x v→RelV y u→r x y H Q→
  wpAny (model X.prog X.w) X.A (f v u) (EP X c_ σ Q) X.xe s
def Up(X:Cx)(f:Value→Sem Value)(r:V→Hp→VK→Prop):Prop:=
 ∀(c_:Qqz)(s:Shared)(σ:St)(H:Hp)(x:V)(v:Value)(Q:VK),Inv X c_ σ H s→RelV x v→r x H Q→
  wpAny (model X.prog X.w) X.A (f v) (EP X c_ σ Q) X.xe s
def uK(X:Cx)(f:Value)(r:List V→Hp→VK→Prop):Prop:=
 ∀(c_:Qqz)(s:Shared)(σ:St)(H:Hp)(xs:List V)(us:List Value)(Q:VK),Inv X c_ σ H s→Vals xs us→r xs H Q→
  wpAny (model X.prog X.w) X.A (call f us) (EP X c_ σ Q) X.xe s
def Uq(X:Cx)(r:V→Hp→(Bool→Hp→Prop)→Prop):Prop:=
 ∀(c_:Qqz)(s:Shared)(σ:St)(H:Hp)(x:V)(v:Value)(Q:Bool→Hp→Prop),Inv X c_ σ H s→RelV x v→r x H Q→
  wpAny (model X.prog X.w) X.A (truthy v) (TP X c_ σ Q) X.xe s
def Qi(r:R2)(ta tb:TE):TE:=fun σ H Q=>ta σ H fun x H1=>tb σ H1 fun y H2=>r x y H2 Q
def tUn(r:V→Hp→VK→Prop)(ta:TE):TE:=fun σ H Q=>ta σ H fun x H1=>r x H1 Q
def rI(C:Int→Int→Prop)(g:Int→Int→V):R2:=fun x y H Q=>∃i j,x=.int i∧y=.int j∧C i j∧Q (g i j) H
def Md(g:Int→Int→V):R2:=fun x y H Q=>∃i j,x=.int i∧y=.int j∧Q (g i j) H
def rU(g:Int→V):V→Hp→VK→Prop:=fun x H Q=>∃i,x=.int i∧Q (g i) H
section
variable{X:Cx}{a b c:Expr}{ta tb tc:TE}{pos:Pos}
theorem M7(ha:PE X a ta)(hb:PE X b tb){c_:Qqz}{s:Shared}{σ:St}{H:Hp}{R:V→V→Hp→Prop}(I:Inv X c_ σ H s)
  (h:ta σ H fun x H1=>tb σ H1 fun y H2=>R x y H2) {Q:Qqq} {f:Value→Value→Sem Value}
  (hf:∀v u s2 x y H2,Inv X c_ σ H2 s2→RelV x v→RelV y u→R x y H2→wpAny (model X.prog X.w) X.A (f v u) Q X.xe s2) :
  wpAny (model X.prog X.w) X.A (eval a X.env) (fun v s₁=>wpAny (model X.prog X.w) X.A (eval b X.env) (fun u s₂=>wpAny (model X.prog X.w) X.A (f v u) Q X.xe s₂) X.xe s₁) X.xe s:=by
 refine i3 (ha c_ s σ H _ I h) fun v s1 ⟨x,H1,I1,r1,q1⟩=>?_
 refine i3 (hb c_ s1 σ H1 _ I1 q1) fun u s2 ⟨y,H2,I2,r2,q2⟩=>?_
 exact hf v u s2 x y H2 I2 r1 r2 q2
theorem gm{op:Operator}{r:R2}(ho:vW X (binaryOp op) r)(ha:PE X a ta)(hb:PE X b tb):PE X (.BinOp a op b pos) (Qi r ta tb):=by
 intro c_ s σ H Q I h
 exact wpAny_BinOp (M7 ha hb I h fun v u s2 x y H2 I2 rx ry q=>ho c_ s2 σ H2 x y v u Q I2 rx ry q)
theorem xf{op:UnaryOp}{r:V→Hp→VK→Prop}(ho:Up X (unaryOp op) r)(ha:PE X a ta):PE X (.UnaryOp op a pos) (tUn r ta):=by
 intro c_ s σ H Q I h
 exact UnaryOp_ (i3 (ha c_ s σ H _ I h) fun v s1 ⟨x,H1,I1,r1,q1⟩=>ho c_ s1 σ H1 x v Q I1 r1 q1)
theorem Ur{f:Value→Value→Sem Value}{C:Int→Int→Prop}{g:Int→Int→Int}
  (rule:∀(i j:Int)(t u:Tok)(s:Shared)(Q:Qqq)(E:Qqq),C i j→Q (.int (g i j) s.toks) {s with toks:=s.toks+1}→wpAny (model X.prog X.w) X.A (f (.int i t) (.int j u)) Q E s) :
  vW X f (rI C fun i j=>.int (g i j)):=by
 intro c_ s σ H x y v u Q I rx ry h
 obtain⟨i,j,rfl,rfl,hc,q⟩:=h
 obtain⟨t,rfl⟩:=rx
 obtain⟨t',rfl⟩:=ry
 exact rule i j t t' s _ _ hc ⟨.int (g i j),H,I.tok _,⟨_,rfl⟩,q⟩
theorem Qj{f:Value→Value→Sem Value}{g:Int→Int→Int}
  (rule:∀(i j:Int)(t u:Tok)(s:Shared)(Q:Qqq)(E:Qqq),Q (.int (g i j) s.toks) {s with toks:=s.toks+1}→wpAny (model X.prog X.w) X.A (f (.int i t) (.int j u)) Q E s) :
  vW X f (Md fun i j=>.int (g i j)):=by
 intro c_ s σ H x y v u Q I rx ry h
 obtain⟨i,j,rfl,rfl,q⟩:=h
 obtain⟨t,rfl⟩:=rx
 obtain⟨t',rfl⟩:=ry
 exact rule i j t t' s _ _ ⟨.int (g i j),H,I.tok _,⟨_,rfl⟩,q⟩
theorem KH{f:Value→Value→Sem Value}{g:Int→Int→Bool}
  (rule:∀(i j:Int)(t u:Tok)(s:Shared)(Q:Qqq)(E:Qqq),Q (.bool (g i j)) s→wpAny (model X.prog X.w) X.A (f (.int i t) (.int j u)) Q E s) :
  vW X f (Md fun i j=>.bl (g i j)):=by
 intro c_ s σ H x y v u Q I rx ry h
 obtain⟨i,j,rfl,rfl,q⟩:=h
 obtain⟨t,rfl⟩:=rx
 obtain⟨t',rfl⟩:=ry
 exact rule i j t t' s _ _ ⟨.bl (g i j),H,I,rfl,q⟩
def Us(i j:Int):Prop:=0<j∧j<1073741824
def M8(i j:Int):Prop:=(-(2 ^ 64)<i∧i<2 ^ 64)∨(-(2 ^ 64)<j∧j<2 ^ 64)
theorem M8.ok{i j:Int}(h:M8 i j):IntMulOk i j:=by
 rcases h with⟨h1,h2⟩|⟨h1,h2⟩
 ·exact .of_left (intBits_le_64 h1 h2)
 ·exact .of_right (intBits_le_64 h1 h2)
theorem iJ:vW X (binaryOp .Add) (Md fun i j=>.int (i+j)):=Qj fun _ _ _ _ _ _ _ q=>add_int q
theorem BK:vW X (binaryOp .Sub) (Md fun i j=>.int (i-j)):=Qj fun _ _ _ _ _ _ _ q=>sub_int q
theorem q_:vW X (binaryOp .Mult) (rI M8 fun i j=>.int (i*j)):=Ur fun _ _ _ _ _ _ _ hc q=>mul_int q hc.ok
theorem j5:vW X (binaryOp .FloorDiv) (rI Us fun i j=>.int (i/j)):=Ur fun i j _ _ _ _ _ hc q=>by
 have h1:(0:Int)<j:=hc.1
 have h2:j<1073741824:=hc.2
 exact floordiv_int (by omega) (by rw[Int.fdiv_eq_ediv_of_nonneg i (by omega)];exact q) (.inl (PyProof.noPylong_small (by omega)))
theorem iX:vW X (binaryOp .Mod) (rI (fun _ j=>0<j) fun i j=>.int (i%j)):=Ur fun i j _ _ _ _ _ hc q=>by
 have h1:(0:Int)<j:=hc
 exact mod_int' (by omega) (by rw[Int.fmod_eq_emod_of_nonneg i (by omega)];exact q)
theorem unI{f:Value→Sem Value}{g:Int→Int}
  (rule:∀(i:Int)(t:Tok)(s:Shared)(Q:Qqq)(E:Qqq),Q (.int (g i) s.toks) {s with toks:=s.toks+1}→wpAny (model X.prog X.w) X.A (f (.int i t)) Q E s) :
  Up X f (rU fun i=>.int (g i)):=by
 intro c_ s σ H x v Q I rx h
 obtain⟨i,rfl,q⟩:=h
 obtain⟨t,rfl⟩:=rx
 exact rule i t s _ _ ⟨.int (g i),H,I.tok _,⟨_,rfl⟩,q⟩
theorem ra:Up X (unaryOp .USub) (rU fun i=>.int (-i)):=unI fun _ _ _ _ _ q=>neg_int q
end
noncomputable def M9:V→V→Bool
 | .jn,.jn=>true|.jn,.int _=>true|.int _,.jn=>true|.jn,.bl _=>true|.bl _,.jn=>true|.jn,.str _=>true|.str _,.jn=>true
 | .int _,.int _=>true|.bl _,.bl _=>true|.str _,.str _=>true|.ES _,.ES _=>true
 | .int _,.str _=>true|.str _,.int _=>true|.bl _,.str _=>true|.str _,.bl _=>true
 | _,_=>false
noncomputable def rEq:R2:=fun x y H Q=>M9 x y=true∧Q (.bl (decide (x=y))) H
noncomputable def rNe:R2:=fun x y H Q=>M9 x y=true∧Q (.bl (!decide (x=y))) H
theorem Ge{i j:Int}:decide (V.int i=V.int j)=(i ==j):=by
 rw[abA]
 simp
theorem Il{i j:Bool}:decide (V.bl i=V.bl j)=(i ==j):=by
 rw[abA]
 simp
theorem Gf{i j:Str}:decide (V.str i=V.str j)=(i ==j):=by
 rw[abA]
 simp
theorem Gg{i j:Array UInt8}:decide (V.ES i=V.ES j)=(i.toList ==j.toList):=by
 rw[abA]
 cases i
 cases j
 simp
section
variable{X:Cx}{a b c:Expr}{ta tb tc:TE}{pos:Pos}
theorem iS{c_:Qqz}{σ:St}{H:Hp}{s:Shared}{Q:VK}{k k':Bool}(I:Inv X c_ σ H s)(q:Q (.bl k) H)(e:k=k'):EP X c_ σ Q (.bool k') s:=by
 subst e
 exact⟨.bl k,H,I,rfl,q⟩
theorem mD:vW X (compareOp .Eq) rEq:=by
 intro c_ s σ H x y v u Q I rx ry h
 obtain⟨hs,q⟩:=h
 cases x with
 | jn=>
  cases rx
  cases y with
  | jn=>cases ry;exact PySem.EqNone.eq_none_none (iS I q (by simp))
  | bl j=>cases ry;exact PySem.EqNone.eq_none_bool (iS I q (by simp))
  | int j=>obtain⟨t',rfl⟩:=ry;exact PySem.EqNone.eq_none_int (iS I q (by simp))
  | str j=>obtain⟨t',rfl⟩:=ry;exact PySem.EqNone.eq_none_str (iS I q (by simp))
  | _=>exact absurd (show false=true from hs) aai
 | bl i=>
  cases rx
  cases y with
  | jn=>cases ry;exact PySem.EqNone.eq_bool_none (iS I q (by simp))
  | bl j=>cases ry;exact eq_bool (iS I q Il)
  | str j=>obtain⟨t',rfl⟩:=ry;exact PySem.EqMixed.eq_bool_str (iS I q (by simp))
  | _=>exact absurd (show false=true from hs) aai
 | int i=>
  obtain⟨t,rfl⟩:=rx
  cases y with
  | jn=>cases ry;exact PySem.EqNone.eq_int_none (iS I q (by simp))
  | int j=>obtain⟨t',rfl⟩:=ry;exact eq_int (iS I q Ge)
  | str j=>obtain⟨t',rfl⟩:=ry;exact PySem.EqMixed.eq_int_str (iS I q (by simp))
  | _=>exact absurd (show false=true from hs) aai
 | str i=>
  obtain⟨t,rfl⟩:=rx
  cases y with
  | jn=>cases ry;exact PySem.EqNone.eq_str_none (iS I q (by simp))
  | bl j=>cases ry;exact PySem.EqMixed.eq_str_bool (iS I q (by simp))
  | int j=>obtain⟨t',rfl⟩:=ry;exact PySem.EqMixed.eq_str_int (iS I q (by simp))
  | str j=>obtain⟨t',rfl⟩:=ry;exact eq_str (iS I q Gf)
  | _=>exact absurd (show false=true from hs) aai
 | ES i=>
  obtain⟨t,rfl⟩:=rx
  cases y with
  | ES j=>obtain⟨t',rfl⟩:=ry;exact W.eq_bytes (iS I q Gg)
  | _=>exact absurd (show false=true from hs) aai
 | _=>cases y<;>exact absurd (show false=true from hs) aai
theorem Gh:vW X (compareOp .NotEq) rNe:=by
 intro c_ s σ H x y v u Q I rx ry h
 obtain⟨hs,q⟩:=h
 cases x with
 | jn=>
  cases rx
  cases y with
  | jn=>cases ry;exact PySem.EqNone.ne_none_none (iS I q (by simp))
  | bl j=>cases ry;exact PySem.EqNone.ne_none_bool (iS I q (by simp))
  | int j=>obtain⟨t',rfl⟩:=ry;exact PySem.EqNone.ne_none_int (iS I q (by simp))
  | str j=>obtain⟨t',rfl⟩:=ry;exact PySem.EqNone.ne_none_str (iS I q (by simp))
  | _=>exact absurd (show false=true from hs) aai
 | bl i=>
  cases rx
  cases y with
  | jn=>cases ry;exact PySem.EqNone.ne_bool_none (iS I q (by simp))
  | bl j=>cases ry;exact ne_bool (iS I q (aa5 not Il))
  | str j=>obtain⟨t',rfl⟩:=ry;exact PySem.EqMixed.ne_bool_str (iS I q (by simp))
  | _=>exact absurd (show false=true from hs) aai
 | int i=>
  obtain⟨t,rfl⟩:=rx
  cases y with
  | jn=>cases ry;exact PySem.EqNone.ne_int_none (iS I q (by simp))
  | int j=>obtain⟨t',rfl⟩:=ry;exact ne_int (iS I q (aa5 not Ge))
  | str j=>obtain⟨t',rfl⟩:=ry;exact PySem.EqMixed.ne_int_str (iS I q (by simp))
  | _=>exact absurd (show false=true from hs) aai
 | str i=>
  obtain⟨t,rfl⟩:=rx
  cases y with
  | jn=>cases ry;exact PySem.EqNone.ne_str_none (iS I q (by simp))
  | bl j=>cases ry;exact PySem.EqMixed.ne_str_bool (iS I q (by simp))
  | int j=>obtain⟨t',rfl⟩:=ry;exact PySem.EqMixed.ne_str_int (iS I q (by simp))
  | str j=>obtain⟨t',rfl⟩:=ry;exact ne_str (iS I q (aa5 not Gf))
  | _=>exact absurd (show false=true from hs) aai
 | ES i=>
  obtain⟨t,rfl⟩:=rx
  cases y with
  | ES j=>obtain⟨t',rfl⟩:=ry;exact W.ne_bytes (iS I q (aa5 not Gg))
  | _=>exact absurd (show false=true from hs) aai
 | _=>cases y<;>exact absurd (show false=true from hs) aai
theorem Gi:vW X (compareOp .Lt) (Md fun i j=>.bl (decide (i<j))):=KH fun _ _ _ _ _ _ _ q=>lt_int q
theorem Im:vW X (compareOp .LtE) (Md fun i j=>.bl (decide (i≤j))):=KH fun _ _ _ _ _ _ _ q=>le_int q
theorem Df:vW X (compareOp .Gt) (Md fun i j=>.bl (decide (j<i))):=KH fun _ _ _ _ _ _ _ q=>gt_int q
theorem Qk:vW X (compareOp .GtE) (Md fun i j=>.bl (decide (j≤i))):=KH fun _ _ _ _ _ _ _ q=>ge_int q
theorem BL:vW X (compareOp .NotIn) (fun x y H Q=>∃i j,x=.str i∧y=.str j∧Q (.bl (!(!(Builtin.Str.occurrences j i 0 j.length 1).isEmpty))) H):=by
 intro c_ s σ H x y v u Q I rx ry h
 obtain⟨i,j,rfl,rfl,q⟩:=h
 obtain⟨t,rfl⟩:=rx
 obtain⟨t',rfl⟩:=ry
 exact notIn_str (iS I q rfl)
theorem iN(b:Expr){op:CmpOp}(h:op≠.In:=by decide)(h2:op≠.NotIn:=by decide):behindInMarks op b=false:=by
 have e1:(op ==CmpOp.In)=false:=by cases op<;>first|rfl|exact absurd rfl h
 have e2:(op ==CmpOp.NotIn)=false:=by cases op<;>first|rfl|exact absurd rfl h2
 cases b<;>simp[behindInMarks,e1,e2]
theorem Gj{op:CmpOp}{r:R2}(ho:vW X (compareOp op) r)(ha:PE X a ta)(hb:PE X b tb)(hm:behindInMarks op b=false):PE X (.Compare a [op] [b] pos) (Qi r ta tb):=by
 intro c_ s σ H Q I h
 exact wpAny_Compare1 (M7 ha hb I h fun v u s2 x y H2 I2 rx ry q=>ho c_ s2 σ H2 x y v u Q I2 rx ry q) hm
def Me(t:TE):TT:=fun σ H Q=>t σ H fun x H'=>∃k,x=.bl k∧Q k H'
theorem ip{op:CmpOp}{r:R2}(ho:vW X (compareOp op) r)(ha:PE X a ta)(hb:PE X b tb)(hm:behindInMarks op b=false):PT X (.Compare a [op] [b] pos) (Me (Qi r ta tb)):=by
 intro c_ s σ H Q I h
 refine wpAny_isTrue_Compare1 (i3 (ha c_ s σ H _ I h) fun v s1 ⟨x,H1,I1,r1,q1⟩=>i3 (hb c_ s1 σ H1 _ I1 q1) fun u s2 ⟨y,H2,I2,r2,q2⟩=>
  i3 (ho c_ s2 σ H2 x y v u _ I2 r1 r2 q2) fun c s3 ⟨z,H3,I3,r3,k,e,q3⟩=>?_) hm
 subst e
 cases r3
 exact abU ⟨H3,I3,q3⟩
def M_(r r':R2)(ta tb tc:TE):TE:=fun σ H Q=>ta σ H fun x H1=>tb σ H1 fun y H2=>r x y H2 fun z H3=>∃k,z=.bl k∧
 (if k=true then tc σ H3 fun w' H4=>r' y w' H4 Q else Q (.bl false) H3)
theorem Dg{op Vh:CmpOp}{r r':R2}(ho:vW X (compareOp op) r)(om:vW X (compareOp Vh) r')(ha:PE X a ta)(hb:PE X b tb)(hc:PE X c tc)
  (hm:lastMarks [op,Vh] [b,c]=false:=by with_unfolding_all rfl):PT X (.Compare a [op,Vh] [b,c] pos) (Me (M_ r r' ta tb tc)):=by
 intro c_ s σ H Q I h
 refine isTrue_chain (i3 (ha c_ s σ H _ I h) fun v s1 ⟨x,H1,I1,r1,q1⟩=>test_link (i3 (hb c_ s1 σ H1 _ I1 q1) fun u s2 ⟨y,H2,I2,r2,q2⟩=>
  i3 (ho c_ s2 σ H2 x y v u _ I2 r1 r2 q2) fun d s3 ⟨z,H3,I3,r3,k,e,q3⟩=>?_)) hm
 subst e
 cases r3
 refine abU ?_
 cases k with
 | false=>
  obtain⟨k',e',q'⟩:=q3
  cases e'
  exact ite_ff ⟨H3,I3,q'⟩
 | true=>
  refine ite_tt (test_last (i3 (hc c_ s3 σ H3 _ I3 q3) fun w' s4 ⟨z',H4,I4,r4,q4⟩=>i3 (om c_ s4 σ H4 y z' u w' _ I4 r2 r4 q4) fun d' s5 ⟨z2,H5,I5,r5,k2,e2,q5⟩=>?_))
  subst e2
  cases r5
  exact abU ⟨H5,I5,q5⟩
def Ql(K:Qqy)(x:V)(H:Hp)(k:Bool):Prop:=
 match x with
 | .jn=>k=false
 | .bl b=>k=b
 | .int i=>k=(i != 0)
 | .str y=>y.length≤sizeLine∧k=((y.length:Int) != 0)
 | .ES y=>y.size≤sizeLine∧k=((y.size:Int) != 0)
 | .ref p=>(∃xs,hV K H p xs∧k=!xs.isEmpty)∨(∃xs,pk K H p xs∧k=!xs.isEmpty)∨∃kvs,H p=some (.dK kvs)∧k=!kvs.isEmpty
 | _=>False
theorem EW{κ:Type}{kvs:List (κ×V)}{vs:List (κ×Value)}(r:KV kvs vs):(!vs.isEmpty)=!kvs.isEmpty:=by
 cases r<;>rfl
theorem yS{xs:List V}{hX:List Value}(r:Vals xs hX):(!hX.toArray.isEmpty)=!xs.isEmpty:=by
 cases r<;>simp
theorem tY:(sizeLine:Nat)<2 ^ 63:=by rw[sizeLine_eq];decide
theorem Na:Uq X (fun x H Q=>∃k,Ql X.K x H k∧Q k H):=by
 intro c_ s σ H x v Q I rx h
 obtain⟨k,e,q⟩:=h
 have hl:=tY
 have hs:sizeLine=16777216:=sizeLine_eq
 cases x with
 | jn=>
  cases rx
  have e':k=false:=e
  subst e'
  exact truthy_none ⟨H,I,q⟩
 | bl b=>
  cases rx
  have e':k=b:=e
  subst e'
  exact abU ⟨H,I,q⟩
 | int i=>
  obtain⟨t,rfl⟩:=rx
  have e':k=(i != 0):=e
  subst e'
  exact PySem.P.truthy_int ⟨H,I,q⟩
 | str y=>
  obtain⟨t,rfl⟩:=rx
  obtain⟨hy,e'⟩:y.length≤sizeLine∧k=((y.length:Int) != 0):=e
  subst e'
  exact PySem.P.truthy_str (by omega) ⟨H,I.tok _,q⟩
 | ES y=>
  obtain⟨t,rfl⟩:=rx
  obtain⟨hy,e'⟩:y.size≤sizeLine∧k=((y.size:Int) != 0):=e
  subst e'
  exact W.truthy_bytes (by omega) ⟨H,I.tok _,q⟩
 | ref p=>
  cases rx
  have e':(∃xs,hV X.K H p xs∧k=!xs.isEmpty)∨(∃xs,pk X.K H p xs∧k=!xs.isEmpty)∨∃kvs,H p=some (.dK kvs)∧k=!kvs.isEmpty:=e
  rcases e' with⟨xs,hx,e'⟩|⟨xs,hx,e'⟩|⟨kvs,hx,e'⟩
  ·subst e'
   obtain⟨hX,r,pl,hz⟩:=I.list hx
   have hlen:=r.length
   exact wpAny_truthy_list pl.isList (by simp only [aag];omega) ⟨H,I.tok _,by rw[yS r];exact q⟩
  ·subst e'
   obtain⟨hX,r,pl,hz⟩:=I.tuple hx
   have hlen:=r.length
   exact truthy_tuple pl (by simp only [aag];omega) ⟨H,I.tok _,by rw[yS r];exact q⟩
  ·subst e'
   obtain⟨hz,hS,vs,r,m⟩:kvs.length≤sizeLine∧(p ==sysModules)=false∧∃vs,KV kvs vs∧s.heap.DictOf (jb X.prog X.w) p vs:=I.iH p _ hx
   have hlen:kvs.length=vs.length:=aao r
   exact wpAny_truthy_dict hS m (by omega) ⟨H,I.tok _,by rw[EW r];exact q⟩
 | _=>exact(show False from e).elim
theorem uL(ha:PE X a ta)(he:∀whole,isTrue a X.env whole=(do let v ←whole;standAt a.pos;holding [v] (truthy v))) :
  PT X a (fun σ H Q=>ta σ H fun x H'=>∃k,Ql X.K x H' k∧Q k H'):=by
 intro c_ s σ H Q I h
 exact isTrue_plain (i3 (ha c_ s σ H _ I h) fun v s1 ⟨x,H1,I1,r1,q1⟩=>Na c_ s1 σ H1 x v Q I1 r1 q1) (he _)
theorem yT:vW X (binaryOp .Add) (fun x y H Q=>∃i j,x=.str i∧y=.str j∧i.length+j.length≤sizeLine∧Q (.str (i++j)) H):=by
 intro c_ s σ H x y v u Q I rx ry h
 obtain⟨i,j,rfl,rfl,hz,q⟩:=h
 obtain⟨t,rfl⟩:=rx
 obtain⟨t',rfl⟩:=ry
 exact add_str (fun t' tk=>⟨.str (i++j),H,I.tok _,⟨_,rfl⟩,q⟩) hz
theorem vals1{x:V}{us:List Value}(r:Vals [x] us):∃u,us=[u]∧RelV x u:=by
 cases r with
 | cons r1 r2=>cases r2;exact⟨_,rfl,r1⟩
theorem vals2{x y:V}{us:List Value}(r:Vals [x,y] us):∃u w',us=[u,w']∧RelV x u∧RelV y w':=by
 cases r with
 | cons r1 r2=>
  cases r2 with
  | cons r3 r4=>cases r4;exact⟨_,_,rfl,r1,r3⟩
theorem G1(hc:X.calm=true):uK X (.builtin "max") (fun xs H Q=>∃i j,xs=[.int i,.int j]∧Q (.int (if j>i then j else i)) H):=by
 intro c_ s σ H xs us Q I r h
 obtain⟨i,j,rfl,q⟩:=h
 obtain⟨u,w',rfl,⟨t,rfl⟩,⟨t',rfl⟩⟩:=vals2 r
 refine max_two_ints (I.ok.hd hc) fun h' tk k=>⟨_,H,I.kept k,?_,q⟩
 by_cases hj:j>i
 ·rw[aas hj,aas hj];exact⟨_,rfl⟩
 ·rw[aan hj,aan hj];exact⟨_,rfl⟩
end
structure EY(h:Heap)(x dx C:Addr)(mA:Qqx):Prop where
 obj:h.get? x=some (W.instObj C dx)
 ns:h.Ns1 dx mA
 ne:dx≠x
theorem G2{h:Heap}{dx:Addr}{mA:Qqx}(n:h.Ns1 dx mA):∃od,h.get? dx=some od∧∀name,W.lookIn name od=some (mA name):=by
 obtain⟨o,es,ep,ho,hd,hk,_,hm⟩:=n
 refine⟨o,ho,fun name=>?_⟩
 have e:=hm name
 unfold nsFind findBy at e
 rw[←Array.find?_toList] at e
 unfold W.lookIn
 rw[hd]
 dsimp only
 split
 ·rename_i y q
  rw[q] at e
  exact aa5 some e
 ·rename_i q
  rw[q] at e
  have a:es.toList.any (·.refKey)=false:=by
   rw[List.any_eq_false]
   intro y hy
   obtain⟨z,t,OH⟩:=hk y (Array.mem_toList_iff.mp hy)
   simp[DictEntry.refKey,OH]
  have a':¬es.toList.any (·.refKey)=true:=by rw[a];exact aai
  rw[aan a']
  exact aa5 some e
theorem EY.look{h:Heap}{x dx C:Addr}{mA:Qqx}(I:EY h x dx C mA):∃od,W.InstAt h x (W.instObj C dx) C (some od)∧∀name,W.lookIn name od=some (mA name):=
 let ⟨od,ho,hl⟩:=G2 I.ns
 ⟨od,⟨I.obj,rfl,rfl,ho⟩,hl⟩
section
variable{prog:Program}{w:World}{A:Around}{E:Qqq}{s:Shared}{K:Qqy}{x dx C f:Addr}{mA:Qqx}{name:Str}{v:Value}
theorem get_map{expr:Bool}{Q:Qqq}(X:K.In s.heap)(I:EY s.heap x dx C mA)(hg:W.plainGet K C name=true)(hh:W.hasDictIn K C=true)
  (ha:W.findIn K (.ref C) name=some none) (hv:mA name=some v) (hv':W.handedIn v=true) (h:Q v {s with toks:=s.toks+1}) :
  wpAny (model prog w) A (getAttr (.ref x) name expr) Q E s:=by
 obtain⟨od,J,hl⟩:=I.look
 exact W.get_value X J (W.plainGet_of hg).1 (W.findObj_own hh ha rfl (by rw[hl,hv])) hv' h
theorem Io{pl:Sem Bool}{Q:Value×List Value→Shared→Prop}(X:K.In s.heap)(I:EY s.heap x dx C mA)(hg:W.plainGet K C name=true)
  (hf:W.findIn K (.ref C) name=some (some (.ref f))) (ht:W.isFn K (.ref f)=true) (hv:mA name=none) (h:Q (.ref f,[.ref x]) s) :
  wpAny (model prog w) A (getMethod (.ref x) name pl) Q E s:=by
 obtain⟨od,J,hl⟩:=I.look
 exact W.method_fn X J (W.plainGet_of hg).1 (W.plainGet_of hg).2 hf (ab3.mp ht) (by show(W.lookIn name od).map (·.isSome)=some false;rw[hl,hv];rfl) h
theorem KI{ns:List Str}{Q:Unit→Shared→Prop}(X:K.In s.heap)(I:EY s.heap x dx C mA)
  (hs:W.findIn K (.ref C) "__setattr__"=some (some (.builtin "object.__setattr__"))) (hp:W.plainOver K C=true) (ht:W.takerIn K C name=some none) (hh:W.hasDictIn K C=true)
  (hw:PySem.Within mA ns) (hsz:ns.length≤sizeLine)
  (h:∀h',EY h' x dx C (fun y=>if y=name then some v else mA y)→Heap.SameBut dx s.heap h'→Q () {s with heap:=h',toks:=s.toks+2}) :
  wpAny (model prog w) A (setAttr (.ref x) name v) Q E s:=by
 obtain⟨od,J,hl⟩:=I.look
 refine W.set_plain X J hs (W.osa_open (s:={s with toks:=s.toks+1}) (r:=none) X J hp ht fun b=>?_)
 obtain⟨cd,hc,Vc⟩:=W.any_some hh
 have hx:s.heap.get? x=some ⟨.ref C,some dx,.plain,#[]⟩:=I.obj
 refine UP (aab (UP (UP (wpAny_loadPart hx (UP (W.Looks.here (s:={s with toks:=s.toks+1}) (W.looks_clsIn X hc) ?_))))))
 rw[Vc]
 refine aab (a:=some dx) (UP (aab (UP ?_)))
 refine wpAny_nsSet1 (s:={s with toks:=s.toks+1}) I.ns fun h' OI HZ=>?_
 obtain⟨oD,esD,epD,hoD,hdD,hcD⟩:=OI.count (PySem.Within.cons name v hw)
 refine UP (wpAny_lookBehind hoD (by rw[hdD];exact pastItsLine_dict (aad hcD (by rw[aae];omega))) ?_)
 exact aab (h _ ⟨(HZ.2 _ (abQ I.ne)).trans I.obj,OI,I.ne⟩ HZ)
theorem Ip{R:Result→Shared→Prop}{vs:List Value}{kw:List (Str×Value)}(X:K.In s.heap)(hm:W.makesIn K C=true)
  (hi:W.findIn K (.ref C) "__init__"=some (some (.ref f))) (hf:W.typeIn K (.ref f)=some (.type "function"))
  (h:codeAny (model prog w) (A.under (.builtin "type.__call__" ⟨.ref C::vs,kw⟩)) (.call (.ref f) ⟨.ref (s.heap.objs.size+1)::vs,kw⟩) (W.InitBack (s.heap.objs.size+1) R)
   {s with heap:=(s.heap.push W.emptyDict).push (W.instObj C s.heap.objs.size)}) :
  codeAny (model prog w) A (.call (.ref C) ⟨vs,kw⟩) R s:=by
 obtain⟨hh,g,d,t,os⟩:=s
 exact W.make_core (W.makes_of X hm) (W.looks_findIn X hi) (fun self=>W.bind_fn X self hf) (.inl rfl) h
end
noncomputable def jD(f:Str)(v:V):List (Str×V)→List (Str×V)
 | []=>[(f,v)]
 | (g,x)::r=>if g=f then(g,v)::r else(g,x)::jD f v r
theorem xg(f g:Str)(v:V):∀fs:List (Str×V),(jD f v fs).lookup g=if g=f then some v else fs.lookup g
 | []=>by
  show List.lookup g [(f,v)]=_
  by_cases h:g=f
  ·have hb:(g ==f)=true:=ab3.mpr h
   simp only [List.lookup,hb,aas h]
  ·have hb:(g ==f)=false:=abK.mpr h
   simp only [List.lookup,hb,aan h]
 | (k,x)::r=>by
  have ih:=xg f g v r
  rw[show jD f v ((k,x)::r)=(if k=f then(k,v)::r else(k,x)::jD f v r) from rfl]
  by_cases hk:k=f
  ·rw[aas hk]
   by_cases h:g=k
   ·have hb:(g ==k)=true:=ab3.mpr h
    simp only [List.lookup,hb,aas (h.trans hk)]
   ·have hb:(g ==k)=false:=abK.mpr h
    simp only [List.lookup,hb,aan (fun e:g=f=>h (e.trans hk.symm))]
  ·rw[aan hk]
   by_cases h:g=k
   ·have hb:(g ==k)=true:=ab3.mpr h
    simp only [List.lookup,hb,aan (fun e:g=f=>hk (h.symm.trans e))]
   ·have hb:(g ==k)=false:=abK.mpr h
    simp only [List.lookup,hb]
    exact ih
theorem vX(f:Str)(v:V):∀fs:List (Str×V),f∈(jD f v fs).map (·.1)∧∀g,g∈fs.map (·.1)→g∈(jD f v fs).map (·.1)
 | []=>⟨by simp[jD],fun g h=>by simp at h⟩
 | (k,x)::r=>by
  obtain⟨i1,i2⟩:=vX f v r
  rw[show jD f v ((k,x)::r)=(if k=f then(k,v)::r else(k,x)::jD f v r) from rfl]
  by_cases hk:k=f
  ·rw[aas hk]
   subst hk
   exact⟨by simp,fun g h=>by simpa using h⟩
  ·rw[aan hk]
   refine⟨?_,fun g h=>?_⟩
   ·rw[aaw]
    exact aal _ i1
   ·rw[aaw] at h ⊢
    rcases XW.mp h with e|e
    ·exact XW.mpr (.inl e)
    ·exact aal _ (i2 g e)
theorem xh(f:Str)(v:V):∀fs:List (Str×V),(jD f v fs).length≤fs.length+1
 | []=>by simp[jD]
 | (k,x)::r=>by
  have ih:=xh f v r
  rw[show jD f v ((k,x)::r)=(if k=f then(k,v)::r else(k,x)::jD f v r) from rfl]
  by_cases hk:k=f
  ·rw[aas hk,aae,aae];omega
  ·rw[aan hk,aae,aae];omega
theorem pq.some_of{v:V}{o:Option Value}(r:pq (some v) o):∃u,o=some u∧RelV v u:=by
 cases o with
 | none=>exact(show False from r).elim
 | some u=>exact⟨u,rfl,r⟩
theorem pq.none_of{o:Option Value}(r:pq none o):o=none:=by
 cases o with
 | none=>rfl
 | some u=>exact(show False from r).elim
theorem G3{v:V}{u:Value}(r:RelV v u):W.handedIn u=true:=by
 cases v with
 | jn=>cases (show u=Value.none from r);rfl
 | bl b=>cases (show u=Value.bool b from r);rfl
 | int i=>obtain⟨t,e⟩:=(show ∃t,u=Value.int i t from r);cases e;rfl
 | str x=>obtain⟨t,e⟩:=(show ∃t,u=Value.str x t from r);cases e;rfl
 | ES b=>obtain⟨t,e⟩:=(show ∃t,u=Value.bytes b t from r);cases e;rfl
 | L8 b=>obtain⟨t,e⟩:=(show ∃t,u=Value.float b t from r);cases e;rfl
 | ref a=>cases (show u=Value.ref a from r);rfl
 | ty n=>cases (show u=Value.type n from r);rfl
section
variable{P:Program}{w:World}{H H':Hp}{h h':Heap}{a C dx:Addr}{fs fs':List (Str×V)}
theorem yE(iH:qJ P w H h)(e:H a=some (.ins C dx fs)):∃mA,EY h a dx C mA∧(∀f,pq (fs.lookup f) (mA f))∧PySem.Within mA (fs.map (·.1))∧fs.length≤1000∧H dx=some (.own a):=by
 obtain⟨d,z,ne,ob,mA,n,r,q⟩:=(show i5 P w H h a (.ins C dx fs) from iH a _ e)
 exact⟨mA,⟨ob,n,ne⟩,r,q,z,d⟩
end
structure Dh(K:Qqy)(C:Addr):Prop where
 pg:W.plainGet K C Str.empty=true
 hd:W.hasDictIn K C=true
 po:W.plainOver K C=true
 sa:W.findIn K (.ref C) "__setattr__"=some (some (.builtin "object.__setattr__"))
theorem Dh.get{K:Qqy}{C:Addr}(c:Dh K C)(f:Str):W.plainGet K C f=true:=c.pg
def jV(K:Qqy)(C:Addr)(f:Str):Prop:=W.findIn K (.ref C) f=some none
theorem jV.Qm{K:Qqy}{C:Addr}{f:Str}(n:jV K C f):W.takerIn K C f=some none:=by
 unfold W.takerIn
 rw[show W.findIn K (.ref C) f=some none from n]
 rfl
structure Meth(K:Qqy)(C:Addr)(m:Str)(f:Addr):Prop where
 at_:W.findIn K (.ref C) m=some (some (.ref f))
 fn:W.isFn K (.ref f)=true
 kp:W.keepIn K (.ref f)=true
section
variable{X:Cx}{c_:Qqz}{σ:St}{H:Hp}{s:Shared}{a C dx:Addr}{fs:List (Str×V)}{f:Str}{v:V}{A:Around}{E:Qqq}
theorem EZ{b:Bool}{Q:Qqq}(I:Inv X c_ σ H s)(e:H a=some (.ins C dx fs))(c:Dh X.K C)(n:jV X.K C f)(l:fs.lookup f=some v)
  (h:∀u s',Inv X c_ σ H s'→RelV v u→Q u s'):wpAny (model X.prog X.w) A (getAttr (.ref a) f b) Q E s:=by
 obtain⟨mA,O,r,_,_,_⟩:=yE I.iH e
 obtain⟨u,hu,ru⟩:=pq.some_of (v:=v) (o:=mA f) (by rw[←l];exact r f)
 exact get_map I.uH O (c.get f) c.hd n hu (G3 ru) (h u _ (I.tok _) ru)
theorem tZ{m:Str}{g:Addr}{pl:Sem Bool}{Q:Value×List Value→Shared→Prop}(I:Inv X c_ σ H s)(e:H a=some (.ins C dx fs))(c:Dh X.K C)(k:Meth X.K C m g)(l:fs.lookup m=none)
  (h:Q (.ref g,[.ref a]) s):wpAny (model X.prog X.w) A (getMethod (.ref a) m pl) Q E s:=by
 obtain⟨mA,O,r,_,_,_⟩:=yE I.iH e
 have hn:mA m=none:=pq.none_of (by rw[←l];exact r m)
 exact Io I.uH O (c.get m) k.at_ k.fn hn h
theorem E1{y:V}{u:Value}{Q:Unit→Shared→Prop}(I:Inv X c_ σ H s)(e:H a=some (.ins C dx fs))(c:Dh X.K C)(n:jV X.K C f)(hl:fs.length<1000)(ry:RelV y u)
  (h:∀s',Inv X c_ σ (upd H a (.ins C dx (jD f y fs))) s'→Q () s'):wpAny (model X.prog X.w) A (setAttr (.ref a) f u) Q E s:=by
 obtain⟨mA,O,r,wi,_,ho⟩:=yE I.iH e
 have hz:(fs.map (·.1)).length≤sizeLine:=by rw[RK,sizeLine_eq];omega
 refine KI I.uH O c.sa c.po n.Qm c.hd wi hz fun h' O' sb=>h _ ?_
 have hd:∃o,h'.get? dx=some o:=let ⟨o,_,_,e',_⟩:=O'.ns;⟨o,e'⟩
 refine I.write (x:=a) (e:=dx) (by rw[e];exact True.intro) (.inr ho) (fun b q hb z=>(sb.2 b hb).trans z) hd ?_
 refine⟨by rw[d_ O.ne];exact ho,?_,O.ne,O'.obj,_,O'.ns,fun g=>?_,fun g hg=>?_⟩
 ·have:=xh f y fs;omega
 ·show pq ((jD f y fs).lookup g) (if g=f then some u else mA g)
  rw[xg]
  by_cases q:g=f
  ·rw[aas q,aas q];exact ry
  ·rw[aan q,aan q];exact r g
 ·by_cases q:g=f
  ·rw[q];exact(vX f y fs).1
  ·refine(vX f y fs).2 g (wi g fun z=>hg ?_)
   show(if g=f then some u else mA g)=none
   rw[aan q];exact z
theorem Inv.made(I:Inv X c_ σ H s):Inv X c_ σ (upd (upd H s.heap.objs.size (.own (s.heap.objs.size+1))) (s.heap.objs.size+1) (.ins C s.heap.objs.size []))
  {s with heap:=(s.heap.push W.emptyDict).push (W.instObj C s.heap.objs.size)}:=by
 have e1:(s.heap.push W.emptyDict).get? s.heap.objs.size=some W.emptyDict:=aaz s.heap rfl
 have e2:((s.heap.push W.emptyDict).push (W.instObj C s.heap.objs.size)).get? (s.heap.objs.size+1)=some (W.instObj C s.heap.objs.size):=by
  have:=aaz (s.heap.push W.emptyDict) (o:=W.instObj C s.heap.objs.size) rfl
  rwa [Heap.size_push] at this
 have e3:(s.heap.push W.emptyDict).Ns s.heap.objs.size (fun _=>none):=⟨W.emptyDict,#[],_,e1,rfl,(fun e he=>absurd he (by simp)),fun _=>rfl⟩
 have I1:=I.laid (a:=s.heap.objs.size) (o:=.own (s.heap.objs.size+1)) (h':=s.heap.push W.emptyDict) (t':=s.toks) (fun b u q=>aac _ q) (U0 _) ⟨_,e1⟩
 refine I1.laid (a:=s.heap.objs.size+1) (o:=.ins C s.heap.objs.size []) (t':=s.toks) (fun b u q=>aac _ q) (Nat.le_of_eq (Heap.size_push _ _)) ?_
 have ne:s.heap.objs.size≠s.heap.objs.size+1:=aaW (ach _)
 refine⟨by rw[d_ ne,b_],aaK _,ne,e2,fun _=>none,(Heap.Ns1.of_empty e3).at fun o q=>aac _ q,fun _=>True.intro,fun y hy=>absurd rfl hy⟩
theorem KJ{prog:Program}{w:World}{env:Env}{e:Expr}{f:Str}{pos:Pos}{s:Shared}{Q:Qqq}(hb:attributeBase e f env (eval e env)=eval e env)
  (h:wpAny (model prog w) A (eval e env) (fun o s₁=>wpAny (model prog w) A (getAttr o f true) Q E s₁) E s):wpAny (model prog w) A (eval (.Attribute e f pos) env) Q E s:=
 Attribute_any_ h (by rw[arm_eval_Attribute,hb])
end
def Ut(K:Qqy)(ta:TE)(f:Str):TE:=fun σ H Q=>ta σ H fun x H1=>∃a C dx fs v,x=.ref a∧H1 a=some (.ins C dx fs)∧Dh K C∧jV K C f∧fs.lookup f=some v∧Q v H1
def Uu(K:Qqy)(ta tv:TE)(f:Str):TS:=fun D σ H=>tv σ H fun y H1=>ta σ H1 fun x H2=>∃a C dx fs,x=.ref a∧H2 a=some (.ins C dx fs)∧Dh K C∧jV K C f∧fs.length<1000∧
 D.nx σ (upd H2 a (.ins C dx (jD f y fs)))
section
variable{X:Cx}{o e value:Expr}{f:Str}{pos pos' OJ:Pos}{ta tv:TE}
theorem gq(he:PE X e ta)(hb:attributeBase e f X.env (eval e X.env)=eval e X.env):PE X (.Attribute e f pos) (Ut X.K ta f):=by
 intro c_ s σ H Q I h
 refine KJ hb (i3 (he c_ s σ H _ I h) fun u s1 ⟨x,H1,I1,rx,a,C,dx,fs,v,ex,ea,c,n,l,q⟩=>?_)
 subst ex
 obtain rfl:u=Value.ref a:=rx
 exact EZ I1 ea c n l fun u' s2 I2 ru=>⟨v,H1,I2,ru,q⟩
theorem lF(ha:PE X o ta)(hv:PE X value tv)(hs:swapsWith value (some (.Attribute o f pos')) pos.line X.env=pure false):PS X (.Assign [.Attribute o f pos'] value pos) (Uu X.K ta tv f):=by
 intro c_ s σ H D I h
 refine plainObj_wpAny_Assign_Attribute (i3 (hv c_ s σ H _ I h) fun u s1 ⟨y,H1,I1,ry,q⟩=>i3 (ha c_ s1 σ H1 _ I1 q) fun ov s2 ⟨x,H2,I2,rx,a,C,dx,fs,ex,ea,c,n,l,q2⟩=>?_) hs
 subst ex
 obtain rfl:ov=Value.ref a:=rx
 exact E1 I2 ea c n l ry fun s3 I3=>⟨σ,_,I3,q2⟩
end
section
variable{X:Cx}{c_:Qqz}{σ:St}{H:Hp}{s:Shared}{A:Around}{E:Qqq}{Q:Qqq}{c:Value}{b:Bool}
inductive vY(K:Qqy)(H:Hp):V→Value→Prop where
 | jn:vY K H .jn (.type "NoneType")
 | bl (x:Bool):vY K H (.bl x) (.type "bool")
 | int (i:Int):vY K H (.int i) (.type "int")
 | str (x:Str):vY K H (.str x) (.type "str")
 | L8 (x:UInt64):vY K H (.L8 x) (.type "float")
 | lst {a:Addr} {xs:List V} (e:H a=some (.lst xs)):vY K H (.ref a) (.type "list")
 | mQ {a:Addr} {o:Obj} {xs:List V} (e:H a=some (.mQ o (.lst xs))):vY K H (.ref a) (.type "list")
 | tup {a:Addr} {xs:List V} (e:H a=some (.tup xs)):vY K H (.ref a) (.type "tuple")
 | dK {a:Addr} {kvs:List (Key×V)} (e:H a=some (.dK kvs)):vY K H (.ref a) (.type "dict")
 | dT {a:Addr} {kvs:List (List Key×V)} (e:H a=some (.dT kvs)):vY K H (.ref a) (.type "dict")
 | ins {a C dx:Addr} {fs:List (Str×V)} (e:H a=some (.ins C dx fs)) (cl:Dh K C) (ha:W.findIn K (.ref C) "__class__"=some (some (.builtin "object.__class__")))
  (hn:W.specialIn K (.builtin "object.__class__") "__get__"=some (some (.builtin "getset_descriptor.__get__"))) (Yh:W.takesIn K (.builtin "object.__class__")=some true)
  (hm:W.mroIn K C (.type "object")=some true):vY K H (.ref a) (.ref C)
theorem G4{x:V}{u t:Value}(I:Inv X c_ σ H s)(rx:RelV x u)(ty:vY X.K H x t)(e:W.kitOne X.K t c=some b)(h:∀tk,Q (.bool b) {s with toks:=tk}) :
  wpAny (model X.prog X.w) A (call (.builtin "isinstance") [u,c]) Q E s:=by
 cases ty with
 | jn=>cases (show u=Value.none from rx);exact abi W.kitx_none I.uH True.intro e (fun z=>nomatch z) h
 | bl y=>cases (show u=Value.bool y from rx);exact abi W.kitx_bool I.uH True.intro e (fun z=>nomatch z) h
 | int i=>obtain⟨t,q⟩:=(show ∃t,u=Value.int i t from rx);cases q;exact abi W.kitx_int I.uH True.intro e (fun z=>nomatch z) h
 | str y=>obtain⟨t,q⟩:=(show ∃t,u=Value.str y t from rx);cases q;exact abi W.kitx_str I.uH True.intro e (fun z=>nomatch z) h
 | L8 y=>obtain⟨t,q⟩:=(show ∃t,u=Value.float y t from rx);cases q;exact abi W.kitx_float I.uH True.intro e (fun z=>nomatch z) h
 | @lst a xs ea=>
  cases (show u=Value.ref a from rx)
  obtain⟨_,_,n,_,h1⟩:=(show i5 X.prog X.w H s.heap a (.lst xs) from I.iH a _ ea)
  exact abi W.kitx_list I.uH ⟨_,h1,rfl⟩ e (fun z=>nomatch z) h
 | @mQ a ob xs ea=>
  cases (show u=Value.ref a from rx)
  obtain⟨_,_,_,n,_,h1⟩:=(show i5 X.prog X.w H s.heap a (.mQ ob (.lst xs)) from I.iH a _ ea)
  exact abi W.kitx_list I.uH ⟨_,h1,rfl⟩ e (fun z=>nomatch z) h
 | @tup a xs ea=>
  cases (show u=Value.ref a from rx)
  obtain⟨_,_,_,p⟩:=(show i5 X.prog X.w H s.heap a (.tup xs) from I.iH a _ ea)
  obtain⟨o,h1,h2,_⟩:=p
  exact abi W.kitx_tuple I.uH ⟨o,h1,h2⟩ e (fun z=>nomatch z) h
 | @dK a kvs ea=>
  cases (show u=Value.ref a from rx)
  obtain⟨_,_,vs,_,p⟩:=(show i5 X.prog X.w H s.heap a (.dK kvs) from I.iH a _ ea)
  obtain⟨o,es,ep,h1,h2,_⟩:=p
  exact abi W.kitx_dict I.uH ⟨o,h1,h2.1⟩ e (fun z=>nomatch z) h
 | @dT a kvs ea=>
  cases (show u=Value.ref a from rx)
  obtain⟨_,_,xs,_,o,es,ep,h1,h2,_⟩:=(show i5 X.prog X.w H s.heap a (.dT kvs) from I.iH a _ ea)
  exact abi W.kitx_dict I.uH ⟨o,h1,h2.1⟩ e (fun z=>nomatch z) h
 | @ins a C dx fs ea cl ha hn Yh hm=>
  cases (show u=Value.ref a from rx)
  obtain⟨mA,O,_⟩:=yE I.iH ea
  obtain⟨od,J,_⟩:=O.look
  exact abi (W.kitx_own (cl.get _) cl.hd ha hn Yh hm) I.uH J e (fun z=>nomatch z) h
end
structure kj(k:Nat)(A:Around):Prop where
 hd:A.handled=none
 dp:A.depth+3*k+5<recursionLimit
 un:A.units+16*k+200<cLine
theorem kj.mono{j k:Nat}{A:Around}(r:kj k A)(h:j≤k):kj j A:=⟨r.hd,by have:=r.dp;omega,by have:=r.un;omega⟩
theorem kj.deeper{k:Nat}{A:Around}(r:kj (k+1) A)(env:Env):kj k (A.deeper env):=
 ⟨r.hd,by have:=r.dp;show A.depth+1+3*k+5<_;omega,by have:=r.un;show A.units+3+16*k+200<_;omega⟩
theorem E2{A:Around}{C:Addr}{us:List Value}{kw:List (Str×Value)}:(A.under (.builtin "type.__call__" ⟨.ref C::us,kw⟩)).depth=A.depth+1:=by
 first|rfl|simp[Around.under,Code.weight,Code.isCreation,Code.isGuard,Code.isCaller,Code.frames,Code.isFrame,guardIds]
theorem E3{A:Around}{C:Addr}{us:List Value}{kw:List (Str×Value)}:(A.under (.builtin "type.__call__" ⟨.ref C::us,kw⟩)).units=A.units+1:=by
 first|rfl|simp[Around.under,Code.cUnits,Code.frames,Code.isFrame]
theorem kj.make{k:Nat}{A:Around}(r:kj (k+1) A)(C:Addr)(us:List Value)(kw:List (Str×Value)):kj k (A.under (.builtin "type.__call__" ⟨.ref C::us,kw⟩)):=
 ⟨r.hd,by have:=r.dp;rw[E2];omega,by have:=r.un;rw[E3];omega⟩
theorem kj.depth{k:Nat}{A:Around}(r:kj k A):A.depth<recursionLimit:=by have:=r.dp;omega
theorem kj.units{k:Nat}{A:Around}(r:kj k A):A.units+64<cLine:=by have:=r.un;omega
def Nb:TA:=fun _ H Q=>Q [] H
def Qn(ta:TE)(tr:TA):TA:=fun σ H Q=>ta σ H fun x H1=>tr σ H1 fun xs H2=>Q (x::xs) H2
section
variable{X:Cx}{e:Expr}{es:List Expr}{te:TE}{t:TA}{pos:Pos}
theorem e_:PA X [] Nb:=fun _ _ _ _ H Q I h=>abv ⟨[],H,I,.nil,h⟩
theorem a_(ha:PE X e te)(hr:PA X es t)(hs:starEach (e::es) X.env=(false,eval e X.env)::starEach es X.env:=by rfl):PA X (e::es) (Qn te t):=by
 intro pos c_ s σ H Q I h
 rw[hs]
 show wpAny _ _ (spliced ((false,eval e X.env)::backTo pos (starEach es X.env))) _ _ s
 refine abf (i3 (ha c_ s σ H _ I h) fun u s1 ⟨x,H1,I1,r1,q1⟩=>?_)
 exact i3 (hr pos c_ s1 σ H1 _ I1 q1) fun us s2 ⟨xs,H2,I2,r2,q2⟩=>⟨x::xs,H2,I2,.cons r1 r2,q2⟩
def Uv(t:TA):TE:=fun σ H Q=>t σ H fun xs H1=>xs.length≤sizeLine∧∀p,H1 p=none→Q (.ref p) (upd H1 p (.tup xs))
def Uw(t:TA):TE:=fun σ H Q=>t σ H fun xs H1=>xs.length≤sizeLine∧∀p,H1 p=none→Q (.ref p) (upd H1 p (.lst xs))
theorem vZ{x1}(h:PA X es t):PE X (.Tuple es x1 pos) (Uv t):=by
 intro c_ s σ H Q I hq
 refine wpAny_Tuple_spliced (i3 (h pos c_ s σ H _ I hq) fun us s1 ⟨xs,H1,I1,r,z,q⟩=>⟨by rw[←r.length];exact z,?_⟩)
 have hf:H1 s1.heap.objs.size=none:=I1.iH.fresh (U0 _)
 refine⟨.ref s1.heap.objs.size,upd H1 s1.heap.objs.size (.tup xs),I1.laid (t':=s1.toks) (fun b u e=>aac _ e) (U0 _) ?_,rfl,q _ hf⟩
 exact⟨z,us,r,⟨_,aaz _ rfl,rfl,_,rfl⟩⟩
theorem i8(h:PA X es t):PE X (.List es pos) (Uw t):=by
 intro c_ s σ H Q I hq
 refine wpAny_List_spliced (i3 (h pos c_ s σ H _ I hq) fun us s1 ⟨xs,H1,I1,r,z,q⟩=>⟨by rw[←r.length];exact z,?_⟩)
 have hf:H1 s1.heap.objs.size=none:=I1.iH.fresh (U0 _)
 refine⟨.ref s1.heap.objs.size,upd H1 s1.heap.objs.size (.lst xs),I1.laid (t':=s1.toks) (fun b u e=>aac _ e) (U0 _) ?_,rfl,q _ hf⟩
 exact⟨z,us,0,r,aaz _ rfl⟩
end
abbrev Sp:=List V→Hp→VK→XK→Prop
abbrev E4:=List Env→Hp→Shared→XK→Qqq
structure E5(P:Program)(w:World)(K:Qqy)(mg:Qqx)(base:Heap)(A:Around)(outer:List Env)(s:Shared)(H:Hp):Prop where
 frames:A.frames=some outer
 mod:Mod K mg base
 bs:∀b o,base.get? b=some o→s.heap.get? b=some o∧H b=none
 Ie:base.objs.size≤s.heap.objs.size
 sW:s.heap.FunFrames base outer
 Kq:∀b∈qY outer,H b=none
 iH:qJ P w H s.heap
 bare:AllBare s.gens
def CE(outer:List Env)(P:Program)(w:World)(H:Hp)(s:Shared)(Q:VK)(u:Value)(s':Shared):Prop:=
 ∃v H',s'.os=s.os∧AllBare s'.gens∧Un (qY outer) [] H H' s.heap s'.heap∧qJ P w H' s'.heap∧RelV v u∧Q v H'
def CR(CX:E4)(outer:List Env)(P:Program)(w:World)(H:Hp)(s:Shared)(Q:VK)(E:XK)(r:Result)(s':Shared):Prop:=
 match r with
 | .ok (.ret u)=>CE outer P w H s Q u s'
 | .ok _=>False
 | .error e=>CX outer H s E e s'
structure ik(P:Program)(w:World)(K:Qqy)(mg:Qqx)(base:Heap)(CX:E4)(k:Nat)(f:Addr)(fd:FuncData)(ps:List Str)(sp:Sp):Prop where
 len:∀vs H Q E,sp vs H Q E→vs.length=ps.length
 run:∀(A:Around)(outer:List Env)(s:Shared)(H:Hp)(args:Args)(us:List Value)(vs:List V)(Q:VK)(E:XK),kj k A→E5 P w K mg base A outer s H→BindsTo s fd args (ps.zip us)→Vals vs us→sp vs H Q E→
  codeAny (model P w) A (.call (.ref f) args) (CR CX outer P w H s Q E) s
theorem ik.mono{P:Program}{w:World}{K:Qqy}{mg:Qqx}{base:Heap}{CX:E4}{j k:Nat}{f:Addr}{fd:FuncData}{ps:List Str}{sp:Sp}(F:ik P w K mg base CX j f fd ps sp)(h:j≤k) :
 ik P w K mg base CX k f fd ps sp:=⟨F.len,fun A outer s H args us vs Q E hr=>F.run A outer s H args us vs Q E (hr.mono h)⟩
theorem E5.make{P:Program}{w:World}{K:Qqy}{mg:Qqx}{base:Heap}{A:Around}{outer:List Env}{s:Shared}{H:Hp}(e:E5 P w K mg base A outer s H)(C:Addr)(us:List Value)(kw:List (Str×Value)) :
 E5 P w K mg base (A.under (.builtin "type.__call__" ⟨.ref C::us,kw⟩)) outer s H:=⟨by first|exact e.frames|(simpa[Around.under,Code.envs,Code.isFrame,pushEnvs] using e.frames),e.mod,e.bs,e.Ie,e.sW,e.Kq,e.iH,e.bare⟩
section
variable{X:Cx}{c_:Qqz}{σ:St}{H:Hp}{s s':Shared}
theorem Inv.Nc(I:Inv X c_ σ H s):E5 X.prog X.w X.K X.mg X.base X.A X.stack s H:=
 ⟨I.ok.frames,I.ok.mod,I.bs,aad I.ok.Ie I.sz,I.stack,I.yC,I.iH,I.bare⟩
theorem Inv.after{Q:VK}{u:Value}(I:Inv X c_ σ H s)(h:CE X.stack X.prog X.w H s Q u s'):EP X c_ σ Q u s':=by
 obtain⟨v,H',os,bare,un,iH,r,q⟩:=h
 obtain⟨hh,g,d,t,os'⟩:=s'
 obtain rfl:os'=s.os:=os
 exact⟨v,H',I.call (h':=hh) (g':=g) (d':=d) (t':=t) (ch:=[]) un iH bare (fun b z=>absurd z (by simp)),r,q⟩
end
def Iq(sp:Sp)(uG:List V)(E:XK)(t:TA):TE:=fun σ H Q=>t σ H fun vs H1=>sp (vs++uG) H1 Q E
def Di(C:Addr)(m:Str)(sp:Sp)(uG:List V)(E:XK)(ta:TE)(t:TA):TE:=fun σ H Q=>ta σ H fun x H1=>∃a dx fs,x=.ref a∧H1 a=some (.ins C dx fs)∧fs.lookup m=none∧
 t σ H1 fun vs H2=>sp (x::(vs++uG)) H2 Q E
def Mf(C:Addr)(sp:Sp)(uG:List V)(E:XK)(t:TA):TE:=fun σ H Q=>t σ H fun vs H1=>∀x dx,H1 x=none→H1 dx=none→dx≠x→
 sp (.ref x::(vs++uG)) (upd (upd H1 dx (.own x)) x (.ins C dx [])) (fun v H2=>v=.jn∧Q (.ref x) H2) E
def Binds(K:Qqy)(fd:FuncData)(ps:List Str)(ds:List Value):Prop:=
 ∀(s:Shared)(us:List Value),K.In s.heap→(us++ds).length=ps.length→BindsTo s fd ⟨us,[]⟩ (ps.zip (us++ds))
theorem Binds.all{K:Qqy}{fd:FuncData}{ps:List Str}(h:∀us:List Value,us.length=ps.length→bindArgs fd ⟨us,[]⟩=pure (ps.zip us)):Binds K fd ps []:=fun s us _ hl=>by
 rw[aaN] at hl ⊢
 exact .of_eq (h us hl)
def Passes(CX:E4)(X:Cx)(E:XK):Prop:=∀(c_:Qqz)(σ:St)(H:Hp)(s:Shared)(e:Value)(s':Shared),Inv X c_ σ H s→CX X.stack H s E e s'→X.xe e s'
section
variable{X:Cx}{CX:E4}{k:Nat}{f C:Addr}{fd:FuncData}{ps:List Str}{sp:Sp}{uG:List V}{ds:List Value}{E:XK}{x m:Str}{p pos apos:Pos}{e o:Expr}{es:List Expr}{ta:TE}{t:TA}
theorem E6{c_:Qqz}{σ:St}{H:Hp}{s:Shared}{Q:VK}{us:List Value}{vs:List V}(F:ik X.prog X.w X.K X.mg X.base CX k f fd ps sp)(hr:kj k X.A)(hb:Binds X.K fd ps ds)(hd:Vals uG ds)(hx:Passes CX X E)
  (I:Inv X c_ σ H s) (r:Vals vs us) (h:sp (vs++uG) H Q E):wpAny (model X.prog X.w) X.A (call (.ref f) us) (EP X c_ σ Q) X.xe s:=by
 have r2:Vals (vs++uG) (us++ds):=r.append hd
 have hl:(us++ds).length=ps.length:=by rw[←r2.length];exact F.len _ _ _ _ h
 refine wpAny_call (codeAny_mono (F.run X.A X.stack s H ⟨us,[]⟩ (us++ds) (vs++uG) Q E hr I.Nc (hb s us I.uH hl) r2 h) fun r s' hq=>?_)
 cases r with
 | error e=>exact hx c_ σ H s e s' I hq
 | ok fl=>
  cases fl with
  | ret u=>exact I.after hq
  | next=>exact False.elim hq
  | brk=>exact False.elim hq
  | cont=>exact False.elim hq
theorem uM(F:ik X.prog X.w X.K X.mg X.base CX k f fd ps sp)(hr:kj k X.A)(hg:Gl X x)(hm:X.mg x=some (.ref f))(hk:W.keepIn X.K (.ref f)=true)(hb:Binds X.K fd ps ds)(hd:Vals uG ds)(hx:Passes CX X E)
  (ha:PA X (e::es) t) (Eu:(x ==("__debug__":Str))=false:=by decide) (he:starEach (e::es) X.env=(false,eval e X.env)::starEach es X.env:=by rfl) (o3:(backTo pos (starEach es X.env)).any (·.1)=false:=by rfl) :
  PE X (.Call (.Name x p) (e::es) [] pos) (Iq sp uG E t):=by
 intro c_ s σ H Q I h
 refine wpAny_Call_Name_kw (sF I hg hm ?_ Eu)
 refine W.callWith_K (h₀:=X.base) I.ok.mod.MW hk (i3 (ha pos c_ s σ H _ I h) fun us s1 ⟨vs,H1,I1,r,q⟩=>⟨I1.uH,?_⟩) he o3
 exact E6 F hr hb hd hx I1 r q
theorem Gk{pl:Sem Bool}(he:PE X o ta)(c:Dh X.K C)(hm:Meth X.K C m f)(F:ik X.prog X.w X.K X.mg X.base CX k f fd ps sp)(hr:kj k X.A)(hb:Binds X.K fd ps ds)(hd:Vals uG ds)(hx:Passes CX X E)(ha:PA X (e::es) t)
  (yt:starEach (e::es) X.env=(false,eval e X.env)::starEach es X.env:=by rfl) (o3:(backTo pos (starEach es X.env)).any (·.1)=false:=by rfl)
  (ht:eval (.Call (.Attribute o m apos) (e::es) [] pos) X.env=(do
   let ov ←eval o X.env
   standAt apos.atName
   let (f,first) ←holding [ov] (getMethod ov m pl)
   callWith pos f first (backTo pos (starEach (e::es) X.env)) (backToKw pos (keywordEach [] X.env))):=by rfl) :
  PE X (.Call (.Attribute o m apos) (e::es) [] pos) (Di C m sp uG E ta t):=by
 intro c_ s σ H Q I h
 refine W.methodCall_KW (pl:=pl) (i3 (he c_ s σ H _ I h) fun u s1 ⟨x,H1,I1,rx,a,dx,fs,ex,ea,l,q⟩=>?_) ht
 subst ex
 obtain rfl:u=Value.ref a:=rx
 refine tZ I1 ea c hm l ?_
 refine W.callWith_K (first:=[.ref a]) (h₀:=X.base) I.ok.mod.MW hm.kp (i3 (ha pos c_ s1 σ H1 _ I1 q) fun us s2 ⟨vs,H2,I2,r,q2⟩=>⟨I2.uH,?_⟩) yt o3
 exact E6 (us:=.ref a::us) (vs:=.ref a::vs) F hr hb hd hx I2 (.cons rfl r) q2
theorem yU{pl:Sem Bool}(he:PE X o ta)(c:Dh X.K C)(hm:Meth X.K C m f)(F:ik X.prog X.w X.K X.mg X.base CX k f fd ps sp)(hr:kj k X.A)(hb:Binds X.K fd ps ds)(hd:Vals uG ds)(hx:Passes CX X E)
  (ht:eval (.Call (.Attribute o m apos) [] [] pos) X.env=(do
   let ov ←eval o X.env
   standAt apos.atName
   let (f,first) ←holding [ov] (getMethod ov m pl)
   callWith pos f first (backTo pos (starEach [] X.env)) (backToKw pos (keywordEach [] X.env))):=by rfl) :
  PE X (.Call (.Attribute o m apos) [] [] pos) (Di C m sp uG E ta Nb):=by
 intro c_ s σ H Q I h
 refine W.methodCall_KW (pl:=pl) (i3 (he c_ s σ H _ I h) fun u s1 ⟨x,H1,I1,rx,a,dx,fs,ex,ea,l,q⟩=>?_) ht
 subst ex
 obtain rfl:u=Value.ref a:=rx
 refine tZ I1 ea c hm l ?_
 exact W.callWith_K0 (first:=[.ref a]) I1.uH hm.kp (E6 (us:=[.ref a]) (vs:=[.ref a]) F hr hb hd hx I1 (.cons rfl .nil) q)
structure Mk(K:Qqy)(C f:Addr):Prop where
 makes:W.makesIn K C=true
 init:W.findIn K (.ref C) "__init__"=some (some (.ref f))
 fn:W.isFn K (.ref f)=true
 kp:W.keepIn K (.ref C)=true
theorem Dj{c_:Qqz}{σ:St}{H:Hp}{s:Shared}{Q:VK}{us:List Value}{vs:List V}(M:Mk X.K C f)(F:ik X.prog X.w X.K X.mg X.base CX k f fd ps sp)(hr:kj (k+1) X.A)(hb:Binds X.K fd ps ds)(hd:Vals uG ds)
  (hx:Passes CX X E) (I:Inv X c_ σ H s) (r:Vals vs us)
  (h:∀x dx,H x=none→H dx=none→dx≠x→sp (.ref x::(vs++uG)) (upd (upd H dx (.own x)) x (.ins C dx [])) (fun v H2=>v=.jn∧Q (.ref x) H2) E) :
  wpAny (model X.prog X.w) X.A (call (.ref C) us) (EP X c_ σ Q) X.xe s:=by
 have hq:=h (s.heap.objs.size+1) s.heap.objs.size (I.iH.fresh (Nat.le_succ _)) (I.iH.fresh (U0 _)) (aaW (ach _))
 have I2:=Inv.made (C:=C) I
 have r2:Vals (V.ref (s.heap.objs.size+1)::(vs++uG)) (Value.ref (s.heap.objs.size+1)::(us++ds)):=.cons rfl (r.append hd)
 have hl:(Value.ref (s.heap.objs.size+1)::us++ds).length=ps.length:=by
  have e:=r2.length
  rw[F.len _ _ _ _ hq] at e
  exact e.symm
 refine wpAny_call (Ip (f:=f) I.uH M.makes M.init (ab3.mp M.fn) (codeAny_mono (F.run _ X.stack _ _ ⟨Value.ref (s.heap.objs.size+1)::us,[]⟩ (Value.ref (s.heap.objs.size+1)::(us++ds)) _ _ E (hr.make C us [])
  (I2.Nc.make C us []) (hb _ (Value.ref (s.heap.objs.size+1)::us) I2.uH hl) r2 hq) fun r s' Ra=>?_))
 cases r with
 | error e=>exact hx c_ σ _ _ e s' I2 Ra
 | ok fl=>
  cases fl with
  | ret u=>
   obtain⟨v,H',I3,rv,ev,q3⟩:=I2.after Ra
   subst ev
   exact⟨rv,⟨V.ref (s.heap.objs.size+1),H',I3,rfl,q3⟩⟩
  | next=>exact False.elim Ra
  | brk=>exact False.elim Ra
  | cont=>exact False.elim Ra
theorem uN(M:Mk X.K C f)(F:ik X.prog X.w X.K X.mg X.base CX k f fd ps sp)(hr:kj (k+1) X.A)(hg:Gl X x)(hm:X.mg x=some (.ref C))(hb:Binds X.K fd ps ds)(hd:Vals uG ds)(hx:Passes CX X E)
  (ha:PA X (e::es) t) (Eu:(x ==("__debug__":Str))=false:=by decide) (he:starEach (e::es) X.env=(false,eval e X.env)::starEach es X.env:=by rfl) (o3:(backTo pos (starEach es X.env)).any (·.1)=false:=by rfl) :
  PE X (.Call (.Name x p) (e::es) [] pos) (Mf C sp uG E t):=by
 intro c_ s σ H Q I h
 refine wpAny_Call_Name_kw (sF I hg hm ?_ Eu)
 refine W.callWith_K (h₀:=X.base) I.ok.mod.MW M.kp (i3 (ha pos c_ s σ H _ I h) fun us s1 ⟨vs,H1,I1,r,q⟩=>⟨I1.uH,?_⟩) he o3
 exact Dj M F hr hb hd hx I1 r q
theorem Ir(M:Mk X.K C f)(F:ik X.prog X.w X.K X.mg X.base CX k f fd ps sp)(hr:kj (k+1) X.A)(hg:Gl X x)(hm:X.mg x=some (.ref C))(hb:Binds X.K fd ps ds)(hd:Vals uG ds)(hx:Passes CX X E)
  (Eu:(x ==("__debug__":Str))=false:=by decide):PE X (.Call (.Name x p) [] [] pos) (Mf C sp uG E Nb):=by
 intro c_ s σ H Q I h
 refine wpAny_Call_Name_kw (sF I hg hm ?_ Eu)
 exact W.callWith_K0 I.uH M.kp (Dj (us:=[]) M F hr hb hd hx I .nil h)
end
def PK(X:Cx)(Yi:List Keyword)(t:TA):Prop:=
 ∀(pos:Pos)(c_:Qqz)(s:Shared)(σ:St)(H:Hp)(Q:List V→Hp→Prop),Inv X c_ σ H s→t σ H Q→wpAny (model X.prog X.w) X.A (evalAll ((backToKw pos (keywordEach Yi X.env)).map (·.2))) (AP X c_ σ Q) X.xe s
section
variable{X:Cx}{CX:E4}{k:Nat}{f C:Addr}{fd:FuncData}{ps ks:List Str}{sp:Sp}{E:XK}{x m:Str}{p pos apos kpos:Pos}{e o:Expr}{es:List Expr}{Yi:List Keyword}{te ta:TE}{t tk:TA}{nm:Option Str}
variable{g:List Value→List Value→List Value}{gV:List V→List V→List V}
end
structure gv(N P:List Str)(sc:Scope):Prop where
 kind:sc.kind=.function
 co:sc.isCoroutine=false
 gen:sc.isGenerator=false
 nd:N.Nodup
 pre:N.take P.length=P
 par:∀x∈P,sc.names.lookup x=some .local∨sc.names.lookup x=some .cell
 Nd:∀y∈sc.names,y.2≠.free
theorem A3{kindOf:Str→Option NameKind}{x:Str}:∀{binds:List (Str×Value)} {m:Qqx},(∀v,(x,v)∉binds)→bindL kindOf binds m x=m x
 | [],_,_=>rfl
 | (n,v)::r,m,h=>by
  unfold bindL
  rw[A3 fun w hw=>h w (aal _ hw)]
  split
  ·have:x≠n:=by rintro rfl;exact h v aav
   simp[this]
  ·rfl
theorem A4{kindOf:Str→Option NameKind}{x:Str}:∀{binds:List (Str×Value)} {m:Qqx},(∀v,(x,v)∉binds)→bindC kindOf binds m x=m x
 | [],_,_=>rfl
 | (n,v)::r,m,h=>by
  unfold bindC
  rw[A4 fun w hw=>h w (aal _ hw)]
  split
  ·rfl
  ·have:x≠n:=by rintro rfl;exact h v aav
   simp[this]
theorem A5{kindOf:Str→Option NameKind}{x:Str}{v:Value}:∀{P:List Str} {vs:List Value} {i:Nat} {m:Qqx},P.Nodup→P[i]?=some x→vs[i]?=some v→kindOf x=some .local→
  bindL kindOf (P.zip vs) m x=some v
 | [],_,_,_,_,h,_,_=>by simp at h
 | _::_,[],_,_,_,_,h,_=>by simp at h
 | p::P,w::vs,0,m,nd,h1,h2,hk=>by
  simp at h1 h2;subst h1;subst h2
  show bindL kindOf ((p,w)::P.zip vs) m p=_
  unfold bindL
  rw[A3 fun v hv=>(aaX.mp nd).1 (List.of_mem_zip hv).1,aas hk]
  simp
 | p::P,w::vs,i+1,m,nd,h1,h2,hk=>by
  show bindL kindOf ((p,w)::P.zip vs) m x=_
  unfold bindL
  exact A5 (i:=i) (aaX.mp nd).2 (by simpa using h1) (by simpa using h2) hk
theorem A6{kindOf:Str→Option NameKind}{x:Str}{v:Value}:∀{P:List Str} {vs:List Value} {i:Nat} {m:Qqx},P.Nodup→P[i]?=some x→vs[i]?=some v→kindOf x≠some .local→
  bindC kindOf (P.zip vs) m x=some v
 | [],_,_,_,_,h,_,_=>by simp at h
 | _::_,[],_,_,_,_,h,_=>by simp at h
 | p::P,w::vs,0,m,nd,h1,h2,hk=>by
  simp at h1 h2;subst h1;subst h2
  show bindC kindOf ((p,w)::P.zip vs) m p=_
  unfold bindC
  rw[A4 fun v hv=>(aaX.mp nd).1 (List.of_mem_zip hv).1,aan hk]
  simp
 | p::P,w::vs,i+1,m,nd,h1,h2,hk=>by
  show bindC kindOf ((p,w)::P.zip vs) m x=_
  unfold bindC
  exact A6 (i:=i) (aaX.mp nd).2 (by simpa using h1) (by simpa using h2) hk
noncomputable def start(N:List Str)(vs:List V):St:=vs.map some++List.replicate (N.length-vs.length) none
noncomputable def v_(CX:E4)(P:Program)(w:World)(K:Qqy)(mg:Qqx)(base:Heap)(N:List Str)(qual:Str)(scope:Scope)(f:Addr)(cd:Value)(A:Around)(outer:List Env)(s:Shared)(H:Hp)(E:XK):Cx where
 prog:=P
 w:=w
 K:=K
 mg:=mg
 base:=base
 A:=A.deeper (envOfC qual scope s.heap.objs.size f cd)
 N:=N
 s₀:=s
 H₀:=H
 env:=envOfC qual scope s.heap.objs.size f cd
 outer:=outer
 stack:=envOfC qual scope s.heap.objs.size f cd::outer
 ex:=[]
 calm:=true
 fn:=fun _=>true
 pn:=[]
 xe:=fun e s'=>wpAny (model P w) (A.deeper (envOfC qual scope s.heap.objs.size f cd)) (leaving (envOfC qual scope s.heap.objs.size f cd) e) (fun _ HJ=>CX outer H s E e HJ) (fun e' HJ=>CX outer H s E e' HJ) s'
theorem Dl{sc:Scope}{n:Nat}{x:Str}(h:sc.names.lookup x=some .cell):∃c,(cellsFrom n sc.names []).lookup x=some c:=by
 have q:=W.cellsFrom_some sc.names n [] (.inl h)
 exact Option.isSome_iff_exists.mp q
theorem G5{CX:E4}{P:Program}{w:World}{K:Qqy}{mg:Qqx}{base:Heap}{N ps:List Str}{qual:Str}{scope:Scope}{f:Addr}{cd:Value}{A:Around}{outer:List Env}{s s1:Shared}{H:Hp}{E:XK}{us:List Value}{vs:List V}
  (S:gv N ps scope) (hd:A.handled=none) (e0:E5 P w K mg base A outer s H) (hl:vs.length=ps.length) (r:Vals vs us)
  (x:InCallC s s.heap.objs.size (bindL (envOfC qual scope s.heap.objs.size f cd).kindOf (ps.zip us) fun _=>none) (cellsFrom (s.heap.objs.size+1) scope.names []) (bindC (envOfC qual scope s.heap.objs.size f cd).kindOf (ps.zip us) fun _=>none) s1) :
  Inv (v_ CX P w K mg base N qual scope f cd A outer s H E) [] (start N vs) H s1:=by
 have o3:ps.length≤N.length:=by have:=aa5 List.length S.pre;rw[aap] at this;omega
 obtain⟨h1,tk,rfl,hk⟩:=x.done
 have Rb:∀b:Addr,b∉(v_ CX P w K mg base N qual scope f cd A outer s H E).ex:=fun b z=>absurd (show b∈([]:List Addr) from z) (by simp)
 refine⟨⟨e0.mod,S.kind,rfl,rfl,U0 _,fun y z c h1 h2=>?_,fun y hy=>?_,fun y c _ h=>?_,fun _=>hd,Around.frames_deeper e0.frames,.inr ⟨rfl,rfl⟩,fun b z=>absurd z (Rb b),e0.bs,e0.Ie,fun b _ _=>Rb b,fun b z=>absurd z (Rb b),e0.sW,e0.Kq⟩,
  rfl,e0.bare,Un.kept hk,⟨_,x.toInCall.ns,fun i y v h1 h2 h3=>?_⟩,fun y c h=>⟨_,x.cell y c h⟩,e0.iH.fresh (U0 _),fun y c h=>?_,fun p hp=>absurd (show p∈([]:Qqz) from hp) (by simp),e0.iH.kept hk,?_⟩
 ·exact name_of_addr x.apart (abw h1) (abw h2)
 ·have hy:scope.names.lookup y=some .cell∨scope.names.lookup y=some .free:=hy
  rcases hy with hy|hy
  ·exact Dl hy
  ·exact absurd rfl (S.Nd _ (abw hy))
 ·exact Nat.le_of_lt (x.above y c (abw h))
 ·have hi:i<vs.length:=by
   unfold start at h2
   by_cases hi:i<vs.length
   ·exact hi
   ·rw[abe (by simpa using hi)] at h2
    rw[List.getElem?_replicate] at h2
    split at h2<;>cases h2
  have ha:vs[i]?=some v:=by
   unfold start at h2
   rw[abR (by simpa using hi),aak] at h2
   cases e:vs[i]? with
   | none=>rw[e] at h2;cases h2
   | some a=>rw[e] at h2;cases h2;rfl
  obtain⟨u,hu,rv⟩:=r.get ha
  have hp:ps[i]?=some y:=by
   rw[←S.pre,List.getElem?_take_of_lt (by omega)];exact h1
  have Yj:ps.Nodup:=by rw[←S.pre];exact S.nd.sublist (ace _ _)
  refine⟨u,rv,?_⟩
  rcases S.par y (VI hp) with k|k
  ·exact .inl ⟨k,A5 Yj hp hu k⟩
  ·obtain⟨c,e⟩:=Dl (n:=s.heap.objs.size+1) k
   refine .inr ⟨.inl k,c,e,?_⟩
   have q:=x.cell y c e
   rw[A6 Yj hp hu (by show scope.names.lookup y≠_;rw[k];decide)] at q
   exact q
 ·exact e0.iH.fresh (Nat.le_of_lt (x.above y c (abw h)))
 ·unfold start
  show _=N.length
  rw[UZ,RK,List.length_replicate]
  omega
theorem Mg{CX:E4}{P:Program}{w:World}{K:Qqy}{mg:Qqx}{base:Heap}{k:Nat}{f:Addr}{name qual:Str}{params:Arguments}{body:List Stmt}{scope:Scope}{dV kV doc pm jx ct oc:Value}{an od:Option Addr}
  {H_:Array (Option Value)} {N ps:List Str} {sp:Sp} (lk:K.lookup f=some ⟨oc,od,.func (W.fnOf name qual params body scope dV kV doc pm an jx ct),H_⟩) (BE:W.codeIn K jx qual=true) (S:gv N ps scope)
  (len:∀vs H Q E,sp vs H Q E→vs.length=ps.length)
  (vO:∀(A:Around)(outer:List Env)(s:Shared)(H:Hp)(vs:List V)(Q:VK)(E:XK),kj k (A.deeper (envOfC qual scope s.heap.objs.size f jx))→sp vs H Q E→
   ∃t,C5 (v_ CX P w K mg base N qual scope f jx A outer s H E) body t∧t {nx:=fun _ H'=>Q .jn H',rt:=Q} (start N vs) H) :
  ik P w K mg base CX (k+1) f (W.fnOf name qual params body scope dV kV doc pm an jx ct) ps sp:=by
 refine⟨len,fun A outer s H args us vs Q E hr e0 hb r Kt=>?_⟩
 have hl:=len _ _ _ _ Kt
 have KX:K.In s.heap:=e0.mod.MW.keeps fun b o e=>(e0.bs b o e).1
 have lim:s.heap.NoLimit:=e0.mod.nolimit.keeps fun b o e=>(e0.bs b o e).1
 have Rc:∀y∈ps.zip us,scope.names.lookup y.1=some .local∨(scope.names.lookup y.1=some .cell∧((cellsFrom (s.heap.objs.size+1) scope.names []).lookup y.1).isSome=true):=fun⟨n,v⟩ hy=>by
  rcases S.par n (List.of_mem_zip hy).1 with q|q
  ·exact .inl q
  ·exact .inr ⟨q,W.cellsFrom_some _ _ _ (.inl q)⟩
 refine codeAny_call_function hr.depth (KX _ _ lk) rfl S.co S.gen rfl (W.codeRec_of KX BE) (hb _ _ _ _ ?_)
 refine wpAny_newFunctionEnv_cells S.kind Rc fun env he s1 x=>?_
 subst he
 refine⟨lim.keeps x.toInCall.keep,codeAny_func ?_⟩
 obtain⟨t,ht,hq⟩:=vO A outer s H vs Q E (hr.deeper _) Kt
 have I:Inv (v_ CX P w K mg base N qual scope f jx A outer s H E) [] (start N vs) H s1:=G5 S hr.hd e0 hl r x
 refine abp (ht [] s1 (start N vs) H _ I hq) (fun fl s' hs=>?_) fun e s' hs=>hs
 have fin:∀{σ':St} {H':Hp} {v:V} {u:Value},Inv (v_ CX P w K mg base N qual scope f jx A outer s H E) [] σ' H' s'→RelV v u→Q v H'→CE outer P w H s Q u s':=
  fun{σ' H' v u} J rv q=>⟨v,H',J.os,J.bare,J.base,J.iH,rv,q⟩
 cases fl with
 | ret u=>
  obtain⟨v,σ',H',J,rv,q⟩:=hs
  exact fin J rv q
 | next=>
  obtain⟨σ',H',J,q⟩:=hs
  exact fin (v:=V.jn) (u:=Value.none) J rfl q
 | brk=>
  obtain⟨_,_,_,q⟩:=hs
  exact False.elim q
 | cont=>
  obtain⟨_,_,_,q⟩:=hs
  exact False.elim q
section
variable{X:Cx}{x:Str}{p pos:Pos}{e:Expr}{es:List Expr}{t:TA}{id T:String}{r:List V→Hp→VK→Prop}
def XR(r:List V→Hp→VK→Prop)(t:TA):TE:=fun σ H Q=>t σ H fun vs H1=>r vs H1 Q
theorem hZ(hc:uK X (.builtin id) r)(hg:Gl X x)(hm:X.mg x=none)(hv:bootBuiltins x=some (.builtin id))(ha:PA X (e::es) t)(hn:x≠"__name__":=by decide)(Eu:(x ==("__debug__":Str))=false:=by decide)
  (he:starEach (e::es) X.env=(false,eval e X.env)::starEach es X.env:=by rfl) (o3:(backTo pos (starEach es X.env)).any (·.1)=false:=by rfl):PE X (.Call (.Name x p) (e::es) [] pos) (XR r t):=by
 intro c_ s σ H Q I h
 refine wpAny_Call_Name_kw (o4 I hg hm hv ?_ hn Eu)
 exact PyProof.Rows.callWith_builtin1 (i3 (ha pos c_ s σ H _ I h) fun us s1 ⟨vs,H1,I1,r1,q1⟩=>hc c_ s1 σ H1 vs us Q I1 r1 q1) he o3
theorem sG(hc:uK X (.type T) r)(hg:Gl X x)(hm:X.mg x=none)(hv:bootBuiltins x=some (.type T))(ha:PA X (e::es) t)(hn:x≠"__name__":=by decide)(Eu:(x ==("__debug__":Str))=false:=by decide)
  (he:starEach (e::es) X.env=(false,eval e X.env)::starEach es X.env:=by rfl) (o3:(backTo pos (starEach es X.env)).any (·.1)=false:=by rfl):PE X (.Call (.Name x p) (e::es) [] pos) (XR r t):=by
 intro c_ s σ H Q I h
 refine wpAny_Call_Name_kw (o4 I hg hm hv ?_ hn Eu)
 exact aa0 (i3 (ha pos c_ s σ H _ I h) fun us s1 ⟨vs,H1,I1,r1,q1⟩=>hc c_ s1 σ H1 vs us Q I1 r1 q1) he o3
end
end L2
namespace HT
open PySem PyProof.Rows
section
open PySem.SeqAt
open PySem.AutoSeq1 (wpAny_loadPart')
open PySem.MeetsSeq PySem.MeetsSeq2 PySem.MeetsSeq3
end
section
variable{prog:Program}{w:World}{A:Around}{E:Qqq}{s:Shared}
noncomputable def mE(n d:Nat):Option Int→Nat
 | none=>d
 | some v=>if v<0 then(v+(n:Int)).toNat else min v.toNat n
theorem Dm(n d:Nat):mE n d none=d:=rfl
theorem Gm(n d k:Nat):mE n d (some (k:Int))=min k n:=by
 show(if(k:Int)<0 then((k:Int)+(n:Int)).toNat else min (k:Int).toNat n)=min k n
 rw[aan (by omega),abW]
theorem Nf(n d:Nat)(hd:d≤n)(o:Option Int):mE n d o≤n:=by
 cases o with
 | none=>exact hd
 | some v=>
  show(if v<0 then(v+(n:Int)).toNat else min v.toNat n)≤n
  by_cases hv:v<0
  ·rw[aas hv];omega
  ·rw[aan hv];exact Nat.min_le_right _ _
theorem Gn(v:Int)(n d:Nat):(if v<0 then max (v+(n:Int)) 0 else min v (n:Int))=((mE n d (some v):Nat):Int):=by
 show(if v<0 then max (v+(n:Int)) 0 else min v (n:Int))=(((if v<0 then(v+(n:Int)).toNat else min v.toNat n):Nat):Int)
 by_cases hv:v<0
 ·simp only [aas hv];omega
 ·simp only [aan hv];omega
theorem E7(lo hi:Option Int)(n:Nat):Builtin.Slice.sliceAdjust lo hi 1 (n:Int)=(((mE n 0 lo:Nat):Int),((mE n n hi:Nat):Int)):=by
 have h1:¬((1:Int)<0):=by omega
 unfold Builtin.Slice.sliceAdjust
 simp only [h1,abZ]
 refine Prod.ext ?_ ?_
 ·cases lo with
  | none=>rfl
  | some v=>exact Gn v n 0
 ·cases hi with
  | none=>rfl
  | some v=>exact Gn v n n
theorem E8(i j:Nat):Builtin.Slice.slicePlaces (i:Int) (j:Int) 1=j-i:=by
 unfold Builtin.Slice.slicePlaces
 have h1:(1:Int)>0:=by omega
 simp only [h1,if_true,Int.ediv_one]
 split<;>omega
theorem yV{v:Value}{o:Option Int}{Q:Option Int→Shared→Prop}(p:IsPart v o)(h:Q o s):wpAny (model prog w) A (Builtin.Slice.slicePartIndex v) Q E s:=by
 cases p with
 | none=>exact slicePart_none h
 | int i t=>exact slicePart_int h
theorem wa{sl:Addr}{vl vu:Value}{lo hi:Option Int}{n:Nat}{Q:Int×Int×Nat→Shared→Prop}(hs:s.heap.IsSliceOf sl vl vu .none)(pl:IsPart vl lo)(pu:IsPart vu hi)
  (h:Q (((mE n 0 lo:Nat):Int),1,mE n n hi-mE n 0 lo) s):wpAny (model prog w) A (Builtin.Slice.sliceApplied (.ref sl) (pure (n:Int))) Q E s:=by
 obtain⟨os,OK,Rf,Tc⟩:=id hs
 unfold Builtin.Slice.sliceApplied Builtin.Slice.sliceFields
 refine UP (UP (wpAny_field OK Tc (x:=vl) rfl (UP (wpAny_field OK Tc (x:=vu) rfl (UP (wpAny_field OK Tc (x:=.none) rfl (aab ?_)))))))
 refine UP (slicePart_none ?_)
 show wpAny _ _ (if((1:Int) ==0)=true then _ else _) _ _ s
 rw[aan (by decide)]
 refine UP (yV pl (UP (yV pu (UP (aab ?_)))))
 show wpAny _ _ (match Builtin.Slice.sliceAdjust lo hi 1 (n:Int) with|(lo,hi)=>pure (lo,(1:Int),Builtin.Slice.slicePlaces lo hi 1)) _ _ s
 rw[E7 lo hi n]
 show wpAny _ _ (pure (((mE n 0 lo:Nat):Int),(1:Int),Builtin.Slice.slicePlaces ((mE n 0 lo:Nat):Int) ((mE n n hi:Nat):Int) 1)) _ _ s
 rw[E8]
 exact aab h
theorem Iu(xs:Array Value)(i k:Nat):((List.range k).filterMap fun(m:Nat)=>xs[((i:Int)+(m:Int)*1).toNat]?).toArray=((xs.toList.drop i).take k).toArray:=by
 have e:(fun(m:Nat)=>xs[((i:Int)+(m:Int)*1).toNat]?)=fun m=>xs[i+m]?:=by
  funext m
  have:((i:Int)+(m:Int)*1).toNat=i+m:=by omega
  rw[this]
 rw[e]
 have:=pick_run xs i k
 rw[List.filterMap_map] at this
 have e2:((fun x=>xs[x]?) ∘ fun x=>i+x)=fun m=>xs[i+m]?:=rfl
 rw[e2] at this
 rw[this]
theorem uO{t sl:Addr}{items:Array Value}{vl vu:Value}{lo hi:Option Int}{Q:Qqq}(ht:IsTup s.heap t items)(hs:s.heap.IsSliceOf sl vl vu .none)(pl:IsPart vl lo)(pu:IsPart vu hi)
  (hw:¬(mE items.size 0 lo=0∧mE items.size items.size hi=items.size))
  (h:Q (.ref s.heap.objs.size) {s with heap:=s.heap.push {cls:=.type "tuple",data:=.seq ((items.toList.drop (mE items.size 0 lo)).take (mE items.size items.size hi-mE items.size 0 lo)).toArray}})
  (hsz:items.size≤sizeLine):wpAny (model prog w) A (getItem (.ref t) (.ref sl)) Q E s:=by
 have GO:sizeOk (.seq ((items.toList.drop (mE items.size 0 lo)).take (mE items.size items.size hi-mE items.size 0 lo)).toArray):=by
  show((items.toList.drop (mE items.size 0 lo)).take (mE items.size items.size hi-mE items.size 0 lo)).toArray.size≤sizeLine
  rw[aag,aap,List.length_drop,aa9]
  omega
 have hj:mE items.size items.size hi≤items.size:=Nf _ _ (U0 _) hi
 obtain⟨os,OK,Rf,Tc⟩:=id hs
 have hTs:s.TypeIs (.ref sl) "slice":=⟨os,OK,Rf⟩
 unfold getItem
 try with_reducible refine abG ?_
 first|refine UP (aab ?_)|skip
 refine UP (wpAny_sequenceKey ht.typeIs (by decide) ?_)
 refine UP (wpAny_callSpecial?_slot (name:=Str.ofString "__getitem__") ht.typeIs PyProof.Rows.slot_tuple_getitem
  (abN PyProof.Rows.slot_tuple_getitem ht.typeIs entry_tuple_getitem ?_ (args_tuple_getitem _ _)))
 show wpAny _ _ (Builtin.Tuple.tupleItemsOf (.ref t) >>= _) _ _ s
 refine UP (tupleItemsOf_ ht ?_)
 refine UP (wpAny_typeOf hTs ?_)
 rw[aas (by decide)]
 refine UP (wa hs pl pu ?_)
 have Yk:¬((((mE items.size 0 lo:Nat):Int) ==0&&(1:Int) ==1&&(mE items.size items.size hi-mE items.size 0 lo) ==items.size)=true):=by
  intro q
  rw[aaZ,aaZ] at q
  have q1:((mE items.size 0 lo:Nat):Int)=0:=eq_of_beq q.1.1
  have q2:mE items.size items.size hi-mE items.size 0 lo=items.size:=eq_of_beq q.2
  exact hw ⟨by omega,by omega⟩
 show wpAny _ _ (if(((mE items.size 0 lo:Nat):Int) ==0&&(1:Int) ==1&&(mE items.size items.size hi-mE items.size 0 lo) ==items.size)=true then _ else _) _ _ s
 rw[aan Yk,Iu]
 first
  | exact UP (m:=Builtin.Tuple.tupleExact _) (abx (aab ⟨_,rfl,aab h⟩) GO)
  | exact UP (m:=Builtin.Tuple.tupleExact _) (abx (UP (aab (aab ⟨_,rfl,aab h⟩))) GO)
  | exact UP (UP (m:=Builtin.Tuple.tupleExact _) (abx (aab (aab ⟨_,rfl,aab h⟩)) GO))
  | exact UP (UP (m:=Builtin.Tuple.tupleExact _) (abx (aab ⟨_,rfl,aab h⟩) GO))
end
end HT
namespace L2
open PySem PySem.Spec PyProof.Rows
abbrev TO:=St→Hp→(Option Int→Hp→Prop)→Prop
def PO(X:Cx)(e:Option Expr)(t:TO):Prop:=
 ∀(c_:Qqz)(s:Shared)(σ:St)(H:Hp)(Q:Option Int→Hp→Prop),Inv X c_ σ H s→t σ H Q→
  wpAny (model X.prog X.w) X.A (evalPart e X.env) (fun u s'=>∃o H',Inv X c_ σ H' s'∧IsPart u o∧Q o H') X.xe s
def KL:TO:=fun _ H Q=>Q none H
def Qo(t:TE):TO:=fun σ H Q=>t σ H fun x H1=>∃i,x=.int i∧Q (some i) H1
section
variable{X:Cx}{e:Expr}{te:TE}{lo hi:Option Expr}{tl th:TO}{pos p2:Pos}
theorem nG:PO X none KL:=by
 intro c_ s σ H Q I h
 rw[evalPart_none]
 exact aab ⟨none,H,I,.none,h⟩
theorem nH(h:PE X e te):PO X (some e) (Qo te):=by
 intro c_ s σ H Q I hw
 rw[evalPart_some]
 refine i3 (h c_ s σ H _ I hw) fun u s1 ⟨x,H1,I1,r1,q1⟩=>?_
 obtain⟨i,rfl,q⟩:=q1
 obtain⟨t,rfl⟩:=r1
 exact⟨some i,H1,I1,.int i t,q⟩
def Ux(X:Cx)(r:V→Option Int→Option Int→Hp→VK→Prop):Prop:=
 ∀(c_:Qqz)(s:Shared)(σ:St)(H:Hp)(x:V)(v vl vu:Value)(lo hi:Option Int)(sl:Addr)(Q:VK),Inv X c_ σ H s→RelV x v→s.heap.IsSliceOf sl vl vu .none→IsPart vl lo→IsPart vu hi→r x lo hi H Q→
  ∃T id,typeLookup (.type T) "__getitem__"=pure (some (.builtin id))∧s.TypeIs v T∧wpAny (model X.prog X.w) X.A (getItem v (.ref sl)) (EP X c_ σ Q) X.xe s
def tSl(r:V→Option Int→Option Int→Hp→VK→Prop)(te:TE)(tl th:TO):TE:=fun σ H Q=>te σ H fun x H1=>tl σ H1 fun l H2=>th σ H2 fun u H3=>r x l u H3 Q
theorem lG{r:V→Option Int→Option Int→Hp→VK→Prop}(hr:Ux X r)(he:PE X e te)(hl:PO X lo tl)(hu:PO X hi th):PE X (.Subscript e (.Slice lo hi none p2) pos) (tSl r te tl th):=by
 intro c_ s σ H Q I h
 refine Subscript_ (i3 (he c_ s σ H _ I h) fun v s1 ⟨x,H1,I1,r1,q1⟩=>?_)
 refine wpAny_Slice (i3 (hl c_ s1 σ H1 _ I1 q1) fun vl s2 ⟨l,H2,I2,pl,q2⟩=>i3 (hu c_ s2 σ H2 _ I2 q2) fun vu s3 ⟨u,H3,I3,pu,q3⟩=>?_)
 rw[evalPart_none]
 refine aab ?_
 have I4:Inv X c_ σ H3 {s3 with heap:=s3.heap.push {cls:=.type "slice",data:=.fields #[vl,vu,.none]}}:=I3.kept (t':=s3.toks) fun b ob q=>aac _ q
 obtain⟨T,id,hT,ht,hg⟩:=hr c_ {s3 with heap:=s3.heap.push {cls:=.type "slice",data:=.fields #[vl,vu,.none]}} σ H3 x v vl vu l u s3.heap.objs.size Q I4 r1 (Heap.IsSliceOf.new ..) pl pu q3
 show wpAny (model X.prog X.w) X.A (subscriptTail e (.Slice lo hi none p2) v (.ref s3.heap.objs.size)) (EP X c_ σ Q) X.xe {s3 with heap:=s3.heap.push {cls:=.type "slice",data:=.fields #[vl,vu,.none]}}
 exact tail_any (ops:=[.ref s3.heap.objs.size,v]) ht hT hg (by with_unfolding_all rfl)
noncomputable def rb(xs:List V)(lo hi:Option Int):List V:=(xs.drop (HT.mE xs.length 0 lo)).take (HT.mE xs.length xs.length hi-HT.mE xs.length 0 lo)
theorem xi(xs:List V)(lo hi:Option Int):(rb xs lo hi).length≤xs.length:=by
 unfold rb
 rw[aap,List.length_drop]
 omega
noncomputable def Uy(K:Qqy):V→Option Int→Option Int→Hp→VK→Prop:=fun x lo hi H Q=>∃a xs,x=.ref a∧pk K H a xs∧
 ¬(HT.mE xs.length 0 lo=0∧HT.mE xs.length xs.length hi=xs.length)∧∀p,H p=none→Q (.ref p) (upd H p (.tup (rb xs lo hi)))
theorem Ng:Ux X (Uy X.K):=by
 intro c_ s σ H x v vl vu lo hi sl Q I rx hs pl pu h
 obtain⟨a,xs,rfl,hx,hw,q⟩:=h
 cases rx
 obtain⟨hX,r,ht,hz⟩:=I.tuple hx
 have hlen:hX.toArray.size=xs.length:=by rw[aag];exact r.length.symm
 refine⟨"tuple",_,PyProof.Rows.slot_tuple_getitem.lookup,ht.typeIs,?_⟩
 refine HT.uO ht hs pl pu (by rw[hlen];exact hw) ?_ (by rw[hlen];exact hz)
 rw[hlen]
 refine⟨.ref s.heap.objs.size,_,I.laid (t':=s.toks) (o:=.tup (rb xs lo hi)) (fun b ob q=>aac _ q) (U0 _) ?_,rfl,q _ (I.iH.fresh (U0 _))⟩
 exact⟨aad (xi xs lo hi) hz,_,(r.drop (HT.mE xs.length 0 lo)).take (HT.mE xs.length xs.length hi-HT.mE xs.length 0 lo),IsTup.new _ _⟩
end
noncomputable def Iv(n:Nat)(i:Int):Option Nat:=if 0≤i then(if i<n then some i.toNat else none) else if -(n:Int)≤i then some (i+n).toNat else none
noncomputable def E9{α:Type}(xs:List α)(i:Int):Option α:=(Iv xs.length i).bind fun j=>xs[j]?
theorem Gp{n:Nat}{i:Int}{j:Nat}(h:Iv n i=some j):seqIndex? i n=some j∧j<n∧-(n:Int)≤i∧i<n:=by
 unfold Iv at h
 by_cases h0:0≤i
 ·rw[aas h0] at h
  by_cases h1:i<n
  ·rw[aas h1] at h
   have e:i.toNat=j:=aaD h
   exact⟨by rw[seqIndex_of h0 h1,e],by omega,by omega,h1⟩
  ·rw[aan h1] at h;cases h
 ·rw[aan h0] at h
  by_cases h1:-(n:Int)≤i
  ·rw[aas h1] at h
   have e:(i+n).toNat=j:=aaD h
   exact⟨by rw[seqIndex_neg (by omega) h1,e],by omega,h1,by omega⟩
  ·rw[aan h1] at h;cases h
theorem BM{α:Type}{xs:List α}{i:Int}{v:α}(h:E9 xs i=some v):∃j,seqIndex? i xs.length=some j∧xs[j]?=some v∧j<xs.length∧-(xs.length:Int)≤i∧i<xs.length:=by
 unfold E9 at h
 cases e:Iv xs.length i with
 | none=>rw[e] at h;cases h
 | some j=>
  rw[e] at h
  obtain⟨h1,h2,h3,h4⟩:=Gp e
  exact⟨j,h1,h,h2,h3,h4⟩
theorem KN{α:Type}{xs:List α}{j:Nat}{v:α}(h:xs[j]?=some v):E9 xs (j:Int)=some v:=by
 have hj:j<xs.length:=(RO.mp h).1
 have e:Iv xs.length (j:Int)=some j:=by
  unfold Iv
  rw[aas (by omega),aas (by omega)];simp
 unfold E9;rw[e];exact h
theorem Dq{α:Type}(xs:List α)(v:α):E9 (xs++[v]) (-1)=some v:=by
 have hl:(xs++[v]).length=xs.length+1:=by simp
 have e:Iv (xs++[v]).length (-1)=some xs.length:=by
  unfold Iv
  rw[hl,aan (by decide),aas (by omega)]
  congr 1
  omega
 unfold E9
 rw[e]
 show(xs++[v])[xs.length]?=some v
 simp
def Gq(b:Expr):Prop:=∀o i,subscripted b false o i=operate [o,i] (getItem o i)
def S3(X:Cx)(r:R2):Prop:=
 ∀(value slice:Expr)(c_:Qqz)(s:Shared)(σ:St)(H:Hp)(x y:V)(v u:Value)(Q:VK),Inv X c_ σ H s→RelV x v→RelV y u→r x y H Q→
  subscripted slice false v u=operate [v,u] (getItem v u)→wpAny (model X.prog X.w) X.A (subscriptTail value slice v u) (EP X c_ σ Q) X.xe s
def Uz(X:Cx)(id:String)(r:V→List V→Hp→VK→Prop):Prop:=
 ∀(c_:Qqz)(s:Shared)(σ:St)(H:Hp)(x:V)(xs:List V)(v:Value)(us:List Value)(Q:VK),Inv X c_ σ H s→RelV x v→Vals xs us→r x xs H Q→
  wpAny (model X.prog X.w) X.A (call (.builtin id) (v::us)) (EP X c_ σ Q) X.xe s
section
variable{X:Cx}{a b:Expr}{ta tb:TE}{pos:Pos}
theorem jO{r:R2}(hr:S3 X r)(ha:PE X a ta)(hb:PE X b tb)(hs:Gq b):PE X (.Subscript a b pos) (Qi r ta tb):=by
 intro c_ s σ H Q I h
 exact Subscript_ (M7 ha hb I h fun v u s2 x y H2 I2 rx ry q=>hr a b c_ s2 σ H2 x y v u Q I2 rx ry q (hs _ _))
noncomputable def Qp(K:Qqy):R2:=fun x y H Q=>∃p xs i v,x=.ref p∧y=.int i∧hV K H p xs∧E9 xs i=some v∧Q v H
noncomputable def UA(K:Qqy):R2:=fun x y H Q=>∃p xs i v,x=.ref p∧y=.int i∧pk K H p xs∧E9 xs i=some v∧Q v H
noncomputable def UB:R2:=fun x y H Q=>∃z i c,x=.str z∧y=.int i∧z.length≤sizeLine∧E9 z.cps.toList i=some c∧Q (.str ⟨#[c]⟩) H
theorem kF:S3 X (Qp X.K):=by
 intro value slice c_ s σ H x y v u Q I rx ry h hs
 obtain⟨p,xs,i,z,rfl,rfl,hq,he,q⟩:=h
 cases rx
 obtain⟨t,rfl⟩:=ry
 obtain⟨hX,r,pl,hz⟩:=I.list hq
 obtain⟨j,h1,h2,h3,h4,h5⟩:=BM he
 obtain⟨w,ew,AV⟩:=r.get h2
 have hl:=r.length
 have hn:=tY
 have fin:EP X c_ σ Q w s:=⟨z,H,I,AV,q⟩
 by_cases h0:0≤i
 ·have hj:i.toNat=j:=by
   rw[seqIndex_of h0 h5] at h1
   exact aaD h1
  exact item_listR pl.isList h0 (by omega) (by rw[hj];simpa using ew) fin hs
 ·have hj:(i+(hX.toArray.size:Int)).toNat=j:=by
   rw[seqIndex_neg (by omega) h4] at h1
   rw[aag,←hl]
   exact aaD h1
  exact subscriptTail_builtinR (x:=w) pl.isList.typeIs slot_list_getitem.lookup
   (wpAny_getItem_list_neg (Q:=fun r s'=>r=w∧EP X c_ σ Q r s') pl.isList (by omega) (by rw[aag]<;>omega) (by omega) (by rw[hj];simpa using ew) ⟨rfl,fin⟩) hs
theorem mR:S3 X (UA X.K):=by
 intro value slice c_ s σ H x y v u Q I rx ry h hs
 obtain⟨p,xs,i,z,rfl,rfl,hq,he,q⟩:=h
 cases rx
 obtain⟨t,rfl⟩:=ry
 obtain⟨hX,r,pl,hz⟩:=I.tuple hq
 obtain⟨j,h1,h2,h3,h4,h5⟩:=BM he
 obtain⟨w,ew,AV⟩:=r.get h2
 have hl:=r.length
 have hn:=tY
 have fin:EP X c_ σ Q w s:=⟨z,H,I,AV,q⟩
 exact subscriptTail_builtinR (x:=w) pl.typeIs slot_tuple_getitem.lookup
  (getItem_tuple (j:=j) (Q:=fun r s'=>r=w∧EP X c_ σ Q r s') pl (by omega) (by omega) (by rw[aag,←hl];exact h1) (by simpa using ew) ⟨rfl,fin⟩) hs
theorem E_:S3 X UB:=by
 intro value slice c_ s σ H x y v u Q I rx ry h hs
 obtain⟨z,i,c,rfl,rfl,hz,he,q⟩:=h
 obtain⟨t,rfl⟩:=rx
 obtain⟨t',rfl⟩:=ry
 obtain⟨j,h1,h2,h3,h4,h5⟩:=BM he
 have hl:z.cps.toList.length=z.length:=by simp[Str.length]
 rw[hl] at h1 h4 h5
 have hn:=tY
 exact tail_any (typeIs_str s z t) slot_str_getitem.lookup (getItem_str (c:=c) (by
  have e1:decide (i < -(2 ^ 63:Int))=false:=aah (by omega)
  have e2:decide (i≥2 ^ 63)=false:=aah (by omega)
  rw[e1,e2,Bool.or_false]) (by rw[h1];simpa using h2) ⟨.str ⟨#[c]⟩,H,I.tok _,⟨_,rfl⟩,q⟩) hs
theorem Fb(hX:List Value)(n j:Nat)(u:Value):Obj.mapSeq (·.setIfInBounds j u) {cls:=.type "list",data:=.seq hX.toArray n}={cls:=.type "list",data:=.seq (hX.set j u).toArray n}:=by
 simp[Obj.mapSeq]
theorem Inv.lst{c_:Qqz}{σ:St}{H:Hp}{s:Shared}{p:Addr}{xs:List V}(I:Inv X c_ σ H s)(h:H p=some (.lst xs)) :
  ∃(hX:List Value)(n:Nat),Vals xs hX∧s.heap.get? p=some {cls:=.type "list",data:=.seq hX.toArray n}∧xs.length≤sizeLine:=by
 obtain⟨z,hX,n,r,e⟩:=I.iH p _ h
 exact⟨hX,n,r,e,z⟩
theorem Inv.Nh{c_:Qqz}{σ:St}{H:Hp}{s:Shared}{p:Addr}{xs ys:List V}{hX its':List Value}{n n':Nat}{f:Obj→Obj}(I:Inv X c_ σ H s)(h:H p=some (.lst xs))
  (ho:s.heap.get? p=some {cls:=.type "list",data:=.seq hX.toArray n}) (hf:f {cls:=.type "list",data:=.seq hX.toArray n}={cls:=.type "list",data:=.seq its'.toArray n'}) (r:Vals ys its') (hz:ys.length≤sizeLine) (t:Nat) :
  Inv X c_ σ (upd H p (.lst ys)) {s with heap:=s.heap.update p f,toks:=t}:=by
 have e:(s.heap.update p f).get? p=some {cls:=.type "list",data:=.seq its'.toArray n'}:=by
  rw[aa_ f ho (by rw[hf]<;>rfl),hf]
 refine I.write (x:=p) (e:=p) (by rw[h];trivial) (.inl rfl) (fun b u hb q=>(abL _ _ (abQ hb)).trans q) ⟨_,e⟩ ?_
 exact⟨hz,its',n',r,e⟩
noncomputable def Qq:V→V→V→Hp→(Hp→Prop)→Prop:=fun o i v H Q=>∃p xs k j,o=.ref p∧i=.int k∧H p=some (.lst xs)∧Iv xs.length k=some j∧Q (upd H p (.lst (xs.set j v)))
theorem set_list:Qd X Qq:=by
 intro c_ s σ H o i v ov iv u Q I ro ri rv h
 obtain⟨p,xs,k,j,rfl,rfl,hp,hj,q⟩:=h
 cases ro
 obtain⟨t,rfl⟩:=ri
 obtain⟨hX,n,r,ho,hz⟩:=I.lst hp
 obtain⟨h1,h2,h3,h4⟩:=Gp hj
 have hl:=r.length
 have hn:=tY
 have I':Inv X c_ σ (upd H p (.lst (xs.set j v))) {s with heap:=s.heap.update p (Obj.mapSeq (·.setIfInBounds j u))}:=
  I.Nh hp ho (Fb hX n j u) (r.set rv j) (by rw[ack];exact hz) s.toks
 by_cases h0:0≤k
 ·have hk:k.toNat=j:=by
   rw[seqIndex_of h0 h4] at h1
   exact aaD h1
  exact W.ki_setAt ho h0 (by omega) (by rw[aag,←hl];exact h4) (by rw[hk];exact⟨_,I',q⟩)
 ·have hk:(k+(hX.toArray.size:Int)).toNat=j:=by
   rw[seqIndex_neg (by omega) h3] at h1
   rw[aag,←hl]
   exact aaD h1
  exact W.ki_setBack ho (by omega) (by rw[aag,←hl];exact h3) (by omega) (by rw[hk];exact⟨_,I',q⟩)
theorem BN(lo hi:Option Int)(n:Nat):(sliceBounds lo hi none n).1=((HT.mE n 0 lo:Nat):Int)∧(sliceBounds lo hi none n).2.1=((HT.mE n n hi:Nat):Int)∧(sliceBounds lo hi none n).2.2=1:=by
 refine⟨?_,?_,rfl⟩
 ·cases lo with
  | none=>simp[sliceBounds,HT.mE]
  | some i=>
   simp only [sliceBounds,HT.mE,Option.getD_none,show(1:Int)>0 by decide,if_true]
   by_cases h:i<0
   ·simp only [h,if_true]<;>omega
   ·simp only [h,abZ]<;>omega
 ·cases hi with
  | none=>simp[sliceBounds,HT.mE]
  | some i=>
   simp only [sliceBounds,HT.mE,Option.getD_none,show(1:Int)>0 by decide,if_true]
   by_cases h:i<0
   ·simp only [h,if_true]<;>omega
   ·simp only [h,abZ]<;>omega
theorem AD(hX:List Value)(lo hi:Option Int):slicePick hX.toArray lo hi none=((hX.drop (HT.mE hX.length 0 lo)).take (HT.mE hX.length hX.length hi-HT.mE hX.length 0 lo)).toArray:=by
 obtain⟨h1,h2,h3⟩:=BN lo hi hX.toArray.size
 unfold slicePick
 rw[h1,h2,h3]
 simp only [sliceRange_one,pick_run,aag]<;>rfl
noncomputable def UC(K:Qqy):V→Option Int→Option Int→Hp→VK→Prop:=fun x lo hi H Q=>∃a xs,x=.ref a∧hV K H a xs∧∀p,H p=none→Q (.ref p) (upd H p (.lst (rb xs lo hi)))
theorem oz:Ux X (UC X.K):=by
 intro c_ s σ H x v vl vu lo hi sl Q I rx hs pl pu h
 obtain⟨a,xs,rfl,hx,q⟩:=h
 cases rx
 obtain⟨hX,r,ht,hz⟩:=I.list hx
 have hlen:=r.length
 refine⟨"list",_,slot_list_getitem.lookup,ht.isList.typeIs,?_⟩
 refine wpAny_getItem_list_slice ht.isList hs pl pu .none (by simp) ?_ (by rw[aag]<;>omega)
 rw[AD,←hlen]
 refine⟨.ref s.heap.objs.size,_,I.laid (t':=s.toks) (o:=.lst (rb xs lo hi)) (fun b ob q=>aac _ q) (U0 _) ?_,rfl,q _ (I.iH.fresh (U0 _))⟩
 exact⟨aad (xi xs lo hi) hz,_,0,(r.drop (HT.mE xs.length 0 lo)).take (HT.mE xs.length xs.length hi-HT.mE xs.length 0 lo),aaz _ rfl⟩
noncomputable def lH:V→Bool
 | .jn=>true
 | .bl _=>true
 | .int _=>true
 | .str _=>true
 | _=>false
noncomputable def HV:V→V→Bool
 | .jn,.jn=>true
 | .bl a,.bl b=>a ==b
 | .bl a,.int b=>(if a then 1 else 0) ==b
 | .int a,.bl b=>a ==(if b then 1 else 0)
 | .int a,.int b=>a ==b
 | .str a,.str b=>a ==b
 | _,_=>false
theorem Iw{A:Around}{s:Shared}{y x:V}{u v:Value}(ry:RelV y u)(rx:RelV x v)(fy:lH y=true)(fx:lH x=true):SeqAt.EqAt A s u v (HV y x):=by
 cases y with
 | jn=>
  cases ry
  cases x with
  | jn=>cases rx;exact SeqAt.EqAt.same _
  | bl b=>cases rx;exact SeqAt.EqAt.none_bool b
  | int b=>obtain⟨t,rfl⟩:=rx;exact SeqAt.EqAt.none_int b t
  | str b=>obtain⟨t,rfl⟩:=rx;exact SeqAt.EqAt.none_str b t
  | _=>exact absurd (show false=true from fx) aai
 | bl a=>
  cases ry
  cases x with
  | jn=>cases rx;exact SeqAt.EqAt.bool_none a
  | bl b=>cases rx;exact SeqAt.EqAt.bool_bool a b
  | int b=>obtain⟨t,rfl⟩:=rx;exact SeqAt.EqAt.bool_int a b t
  | str b=>obtain⟨t,rfl⟩:=rx;exact SeqAt.EqAt.bool_str a b t
  | _=>exact absurd (show false=true from fx) aai
 | int a=>
  obtain⟨t',rfl⟩:=ry
  cases x with
  | jn=>cases rx;exact SeqAt.EqAt.int_none a t'
  | bl b=>cases rx;exact SeqAt.EqAt.int_bool a t' b
  | int b=>obtain⟨t,rfl⟩:=rx;exact SeqAt.EqAt.int_int a t' b t
  | str b=>obtain⟨t,rfl⟩:=rx;exact SeqAt.EqAt.int_str a t' b t
  | _=>exact absurd (show false=true from fx) aai
 | str a=>
  obtain⟨t',rfl⟩:=ry
  cases x with
  | jn=>cases rx;exact SeqAt.EqAt.str_none a t'
  | bl b=>cases rx;exact SeqAt.EqAt.str_bool a t' b
  | int b=>obtain⟨t,rfl⟩:=rx;exact SeqAt.EqAt.str_int a t' b t
  | str b=>obtain⟨t,rfl⟩:=rx;exact SeqAt.EqAt.str_str a t' b t
  | _=>exact absurd (show false=true from fx) aai
 | _=>exact absurd (show false=true from fy) aai
noncomputable def Fc(x:V)(u:Value):Bool:=match u with
 | .none=>HV .jn x
 | .bool b=>HV (.bl b) x
 | .int i _=>HV (.int i) x
 | .str z _=>HV (.str z) x
 | _=>false
theorem Iy{x y:V}{u:Value}(r:RelV y u)(f:lH y=true):Fc x u=HV y x:=by
 cases y with
 | jn=>cases r;rfl
 | bl b=>cases r;rfl
 | int i=>obtain⟨t,rfl⟩:=r;rfl
 | str z=>obtain⟨t,rfl⟩:=r;rfl
 | _=>exact absurd (show false=true from f) aai
theorem uP{x:V}:∀{xs:List V} {us:List Value},Vals xs us→xs.all lH=true→us.any (Fc x)=xs.any fun y=>HV y x
 | _,_,.nil,_=>rfl
 | y::xs,u::us,.cons r t,f=>by
  rw[List.all_cons,aaZ] at f
  rw[List.any_cons,List.any_cons,Iy r f.1,uP t f.2]
theorem rf{A:Around}{s:Shared}{x:V}{v:Value}(rx:RelV x v)(fx:lH x=true):∀{xs:List V} {us:List Value},Vals xs us→xs.all lH=true→∀u∈us,SeqAt.EqAt A s u v (Fc x u)
 | _,_,.nil,_=>fun u hu=>by cases hu
 | y::xs,u::us,.cons r t,f=>fun u' hu=>by
  rw[List.all_cons,aaZ] at f
  rcases XW.mp hu with rfl|hu
  ·rw[Iy r f.1];exact Iw r rx f.1 fx
  ·exact rf rx fx t f.2 u' hu
noncomputable def Ni(x:V)(xs:List V):Bool:=xs.any fun y=>HV y x
noncomputable def XS(K:Qqy)(neg:Bool):R2:=fun x y H Q=>∃p xs,y=.ref p∧(hV K H p xs∨pk K H p xs)∧lH x=true∧xs.all lH=true∧Q (.bl (if neg then !Ni x xs else Ni x xs)) H
theorem G6:vW X (compareOp .In) (XS X.K false):=by
 intro c_ s σ H x y v u Q I rx ry h
 obtain⟨p,xs,rfl,hq,fx,fs,q⟩:=h
 cases ry
 rcases hq with hq|hq
 ·obtain⟨hX,r,pl,hz⟩:=I.list hq
  refine SeqAt.in_listAt (Fc x) pl.isList (fun w hw=>rf rx fx r fs w (by simpa using hw)) ⟨.bl _,H,I,rfl,?_⟩
  rw[show hX.toArray.any (Fc x)=hX.any (Fc x) by simp,uP r fs]
  exact q
 ·obtain⟨hX,r,pl,hz⟩:=I.tuple hq
  refine SeqAt.in_tupleAt (Fc x) pl (fun w hw=>rf rx fx r fs w (by simpa using hw)) ⟨.bl _,H,I,rfl,?_⟩
  rw[show hX.toArray.any (Fc x)=hX.any (Fc x) by simp,uP r fs]
  exact q
theorem BO:vW X (compareOp .NotIn) (XS X.K true):=by
 intro c_ s σ H x y v u Q I rx ry h
 obtain⟨p,xs,rfl,hq,fx,fs,q⟩:=h
 cases ry
 rcases hq with hq|hq
 ·obtain⟨hX,r,pl,hz⟩:=I.list hq
  refine SeqAt.notIn_listAt (Fc x) pl.isList (fun w hw=>rf rx fx r fs w (by simpa using hw)) ⟨.bl _,H,I,rfl,?_⟩
  rw[show hX.toArray.any (Fc x)=hX.any (Fc x) by simp,uP r fs]
  exact q
 ·obtain⟨hX,r,pl,hz⟩:=I.tuple hq
  refine SeqAt.notIn_tupleAt (Fc x) pl (fun w hw=>rf rx fx r fs w (by simpa using hw)) ⟨.bl _,H,I,rfl,?_⟩
  rw[show hX.toArray.any (Fc x)=hX.any (Fc x) by simp,uP r fs]
  exact q
theorem gn:uK X (.builtin "len") (fun xs H Q=>∃p ys,xs=[.ref p]∧(hV X.K H p ys∨pk X.K H p ys)∧Q (.int ys.length) H):=by
 intro c_ s σ H xs us Q I r h
 obtain⟨p,ys,rfl,hq,q⟩:=h
 obtain⟨u,rfl,rx⟩:=vals1 r
 cases rx
 have hn:=tY
 rcases hq with hq|hq
 ·obtain⟨hX,r',pl,hz⟩:=I.list hq
  have hlen:=r'.length
  exact Calls.call_len_list pl.isList (by simp only [aag]<;>omega) ⟨.int ys.length,H,I.tok _,⟨s.toks+1,by rw[aag,hlen]⟩,q⟩
 ·obtain⟨hX,r',pl,hz⟩:=I.tuple hq
  have hlen:=r'.length
  exact len_tuple pl (by simp only [aag]<;>omega) ⟨.int ys.length,H,I.tok _,⟨s.toks+1,by rw[aag,hlen]⟩,q⟩
theorem uQ:uK X (.builtin "len") (fun xs H Q=>∃z,xs=[.str z]∧z.length≤sizeLine∧Q (.int z.length) H):=by
 intro c_ s σ H xs us Q I r h
 obtain⟨z,rfl,hz,q⟩:=h
 obtain⟨u,rfl,t,rfl⟩:=vals1 r
 have hn:=tY
 exact len_str (by omega) ⟨.int z.length,H,I.tok _,⟨_,rfl⟩,q⟩
theorem uR:uK X (.type "list") (fun xs H Q=>∃p ys,xs=[.ref p]∧(hV X.K H p ys∨pk X.K H p ys)∧∀l,H l=none→Q (.ref l) (upd H l (.lst ys))):=by
 intro c_ s σ H xs us Q I r h
 obtain⟨p,ys,rfl,hq,q⟩:=h
 obtain⟨u,rfl,rx⟩:=vals1 r
 cases rx
 have fin:∀(hX:List Value),Vals ys hX→ys.length≤sizeLine→∀(h':Heap)(c':Nat),(∀b o',s.heap.get? b=some o'→h'.get? b=some o')→
   h'.get? s.heap.objs.size=some {cls:=.type "list",dict:=none,data:=.seq hX.toArray c',slots:=#[]}→EP X c_ σ Q (.ref s.heap.objs.size) {s with heap:=h'}:=fun hX r' hz h' c' kp e=>
  ⟨.ref s.heap.objs.size,_,I.laid (t':=s.toks) kp (U0 _) (show i5 X.prog X.w _ h' _ (.lst ys) from ⟨hz,hX,c',r',e⟩),rfl,q _ (I.iH.fresh (U0 _))⟩
 rcases hq with hq|hq
 ·obtain⟨hX,r',pl,hz⟩:=I.list hq
  have hlen:=r'.length
  obtain⟨o,ho,hc,n,hd⟩:=pl.isList
  exact call_list_seq p (.inl rfl) ho hc hd (fun h' c' kp e=>fin hX r' hz h' c' kp e) (by simp only [aag]<;>omega)
 ·obtain⟨hX,r',pl,hz⟩:=I.tuple hq
  have hlen:=r'.length
  obtain⟨o,ho,hc,n,hd⟩:=pl
  exact call_list_seq p (.inr rfl) ho hc hd (fun h' c' kp e=>fin hX r' hz h' c' kp e) (by simp only [aag]<;>omega)
def UD(K:Qqy)(T:String)(x:V)(H:Hp):Prop:=match x with
 | .str _=>T="str"
 | .int _=>T="int"
 | .ref p=>(T="list"∧∃xs,hV K H p xs)∨(T="tuple"∧∃o,K.lookup p=some o∧o.cls=.type "tuple"∧o.dict=none)∨
  (T="dict"∧((∃kvs,H p=some (.dK kvs))∨∃kvs,H p=some (.dT kvs)))∨(T="set"∧∃S n,H p=some (.set S n))
 | _=>False
theorem Iz{c_:Qqz}{σ:St}{H:Hp}{s:Shared}{T:String}{x:V}{v:Value}(I:Inv X c_ σ H s)(r:RelV x v)(ty:UD X.K T x H) :
  s.TypeIs v T∧∀a,v=.ref a→∃ob,s.heap.get? a=some ob∧ob.dict=none:=by
 cases x with
 | str z=>
  obtain⟨t,rfl⟩:=r
  cases (show T="str" from ty)
  exact⟨typeIs_str s z t,fun _ e=>nomatch e⟩
 | int i=>
  obtain⟨t,rfl⟩:=r
  cases (show T="int" from ty)
  exact⟨typeIs_int s i t,fun _ e=>nomatch e⟩
 | ref p=>
  cases r
  rcases ty with⟨rfl,xs,hq⟩|⟨rfl,o,hk,hc,hd⟩|⟨rfl,hk⟩|⟨rfl,S,n,hk⟩
  ·obtain⟨hX,_,pl,_⟩:=I.list hq
   refine⟨pl.isList.typeIs,fun a e=>?_⟩
   cases e
   obtain⟨o,n,e,c,hd,_⟩:=pl
   exact⟨o,e,hd⟩
  ·refine⟨⟨o,I.uH p o hk,hc⟩,fun a e=>?_⟩
   cases e
   exact⟨o,I.uH _ o hk,hd⟩
  ·have z:∃o,s.heap.get? p=some o∧o.ExactDict:=by
    rcases hk with⟨kvs,hk⟩|⟨kvs,hk⟩
    ·obtain⟨_,_,_,_,o,_,_,e,ex,_⟩:=I.iH p _ hk
     exact⟨o,e,ex⟩
    ·obtain⟨_,_,_,_,o,_,_,e,ex,_⟩:=I.iH p _ hk
     exact⟨o,e,ex⟩
   obtain⟨o,e,ex⟩:=z
   refine⟨⟨o,e,ex.1⟩,fun a e2=>?_⟩
   cases e2
   exact⟨o,e,ex.2.1⟩
  ·obtain⟨o,_,_,_,e,ex,_⟩:=I.iH p _ hk
   refine⟨⟨o,e,ex.1⟩,fun a e2=>?_⟩
   cases e2
   exact⟨o,e,ex.2.1⟩
 | _=>exact False.elim ty
def UE(K:Qqy)(T:String)(r:V→List V→Hp→VK→Prop)(to:TE):TE:=fun σ H Q=>to σ H fun x H1=>UD K T x H1∧r x [] H1 Q
def tBM(K:Qqy)(T:String)(r:V→List V→Hp→VK→Prop)(to:TE)(t:TA):TE:=fun σ H Q=>to σ H fun x H1=>UD K T x H1∧t σ H1 fun xs H2=>r x xs H2 Q
variable{o e:Expr}{es:List Expr}{to:TE}{t:TA}{name:Str}{apos kU:Pos}{T id:String}{r:V→List V→Hp→VK→Prop}
theorem Nj(pa:PlainAttrs T)(slot:Slot T name id)(Rg:typeOf (.builtin id)=pure (.type "method_descriptor"))(hm:Uz X id r)(ho:PE X o to)
  (JY:attributeBase o name X.env (eval o X.env)=eval o X.env:=by rfl) (JZ:(apos.endLine ==kU.line)=true:=by rfl):PE X (.Call (.Attribute o name apos) [] [] kU) (UE X.K T r to):=by
 intro c_ s σ H Q I h
 refine wpAny_Call_method0_late JY JZ (i3 (ho c_ s σ H _ I h) fun v s1 ⟨x,H1,I1,r1,ty,q1⟩=>?_)
 obtain⟨h1,h2⟩:=Iz I1 r1 ty
 exact⟨T,id,pa,slot,Rg,h1,h2,abh rfl (PySem.evalArgs_none (hm c_ s1 σ H1 x [] v [] Q I1 r1 .nil q1))⟩
theorem oA(pa:PlainAttrs T)(slot:Slot T name id)(Rg:typeOf (.builtin id)=pure (.type "method_descriptor"))(hm:Uz X id r)(ho:PE X o to)(ha:PA X (e::es) t)
  (JY:attributeBase o name X.env (eval o X.env)=eval o X.env:=by rfl)
  (Vi:((backTo kU (starEach (e::es) X.env)).all (fun x=>!x.1)&&(backToKw kU (keywordEach [] X.env)).all (fun x=>x.1.isSome)
   &&decide ((e::es).length+([]:List Keyword).length+(if([]:List Keyword).isEmpty then 0 else 1)<30))=true:=by rfl)
  (JZ:(apos.endLine ==kU.line)=true:=by rfl) (hs:starEach (e::es) X.env=(false,eval e X.env)::starEach es X.env:=by rfl) (OL:(backTo kU (starEach es X.env)).any (·.1)=false:=by rfl) :
  PE X (.Call (.Attribute o name apos) (e::es) [] kU) (tBM X.K T r to t):=by
 intro c_ s σ H Q I h
 refine wpAny_Call_method_late JY Vi JZ rfl (i3 (ho c_ s σ H _ I h) fun v s1 ⟨x,H1,I1,r1,ty,q1⟩=>?_)
 obtain⟨h1,h2⟩:=Iz I1 r1 ty
 refine⟨T,id,pa,slot,Rg,h1,h2,?_⟩
 have hA:=ha kU c_ s1 σ H1 _ I1 q1
 rw[hs] at hA ⊢
 refine abh (by show(false||(backTo kU (starEach es X.env)).any (·.1))=false;rw[OL]<;>rfl) (abq ?_)
 exact i3 hA fun us s2 ⟨vs,H2,I2,r2,q2⟩=>hm c_ s2 σ H2 x vs v us Q I2 r1 r2 q2
end
def UG(X:Cx)(id:String)(r:V→List V→Hp→VK→Prop):Prop:=
 ∀(c_:Qqz)(s:Shared)(σ:St)(H:Hp)(x:V)(xs:List V)(v:Value)(us:List Value)(Q:VK),Inv X c_ σ H s→RelV x v→Vals xs us→r x xs H Q→
  wpAny (model X.prog X.w) X.A (call (.builtin id) (v::us)) (EP X c_ σ Q) X.xe s
theorem Vals.one:∀{x:V} {us:List Value},Vals [x] us→∃u,us=[u]∧RelV x u
 | _,_,.cons r .nil=>⟨_,rfl,r⟩
theorem Vals.zero:∀{us:List Value},Vals [] us→us=[]
 | _,.nil=>rfl
theorem Vals.dropLast{xs:List V}{us:List Value}(h:Vals xs us):Vals xs.dropLast us.dropLast:=by
 induction h with
 | nil=>exact .nil
 | cons r t ih=>
  cases t with
  | nil=>exact .nil
  | cons q t'=>exact .cons r ih
theorem Vals.rep{xs:List V}{us:List Value}(h:Vals xs us):∀k:Nat,Vals (List.replicate k xs).flatten (List.replicate k us).flatten
 | 0=>.nil
 | k+1=>by
  rw[aba,aba,abX,abX]
  exact Vals.append h (Vals.rep h k)
theorem Fd{α:Type}(l:List α):l.eraseIdx (l.length-1)=l.dropLast:=by
 induction l with
 | nil=>rfl
 | cons a r ih=>
  cases r with
  | nil=>rfl
  | cons b r=>
   have e:(a::b::r).length-1=((b::r).length-1)+1:=by
    have h1:(a::b::r).length=r.length+2:=rfl
    have h2:(b::r).length=r.length+1:=rfl
    omega
   rw[e,List.eraseIdx_cons_succ,ih]
   all_goals rfl
theorem foldl_rep(hX:List Value):∀(k:Nat)(acc:List Value),
  List.foldl (fun x1 x2=>x1++x2) acc.toArray (List.replicate k hX.toArray)=(acc++(List.replicate k hX).flatten).toArray
 | 0,acc=>by simp
 | k+1,acc=>by
  have e:acc.toArray++hX.toArray=(acc++hX).toArray:=by simp
  have e2:(acc++hX)++(List.replicate k hX).flatten=acc++(List.replicate (k+1) hX).flatten:=by
   rw[aba,abX,aaS]
  rw[←e2,←foldl_rep hX k (acc++hX),←e,aba,List.foldl_cons]
section
variable{X:Cx}{c_:Qqz}{σ:St}{H:Hp}{s:Shared}{l b:Addr}{xs ys zs:List V}
theorem Inv.Nk{hX its':List Value}{n:Nat}{f:Array Value→Array Value}{t':Nat}(I:Inv X c_ σ H s)(hH:H l=some (.lst xs))
  (e:s.heap.get? l=some {cls:=.type "list",data:=.seq hX.toArray n}) (hf:f hX.toArray=its'.toArray) (hv:Vals ys its') (hz:ys.length≤sizeLine) :
  Inv X c_ σ (upd H l (.lst ys)) {s with heap:=s.heap.update l (Obj.mapSeq f),toks:=t'}:=by
 have q:=PySem.IsL.update e f
 rw[hf] at q
 refine I.write (x:=l) (e:=l) (by rw[hH];exact trivial) (.inl rfl) (fun b' u hb hu=>(abL s.heap (Obj.mapSeq f) (abQ hb)).trans hu) ⟨_,q⟩ ?_
 exact⟨hz,its',_,hv,q⟩
theorem Inv.KO{hX:List Value}{t':Nat}(I:Inv X c_ σ H s)(hv:Vals ys hX)(hz:ys.length≤sizeLine) :
  Inv X c_ σ (upd H s.heap.objs.size (.lst ys)) {s with heap:=s.heap.push {cls:=.type "list",data:=.seq hX.toArray},toks:=t'}:=
 I.laid (fun _ _ q=>aac _ q) (U0 _) ⟨hz,hX,0,hv,aaz _ rfl⟩
theorem Inv.fresh(I:Inv X c_ σ H s):H s.heap.objs.size=none:=I.iH.fresh (U0 _)
theorem Inv.Fe(I:Inv X c_ σ H s)(hH:H l=some (.lst xs)):xs.length≤sizeLine∧∃(hX:List Value)(n:Nat),Vals xs hX∧xs.length=hX.length∧s.heap.get? l=some {cls:=.type "list",data:=.seq hX.toArray n}:=by
 obtain⟨z,hX,n,r,e⟩:=I.iH l _ hH
 exact⟨z,hX,n,r,r.length,e⟩
theorem Dr{n:Nat}(h:n≤sizeLine):Builtin.List.listTooLong n=false:=by
 unfold Builtin.List.listTooLong
 exact aah (by omega)
end
section
variable{X:Cx}
noncomputable def KP:V→List V→Hp→VK→Prop:=fun x vs H Q=>∃l xs y,x=.ref l∧vs=[y]∧H l=some (.lst xs)∧xs.length<sizeLine∧Q .jn (upd H l (.lst (xs++[y])))
theorem jW:UG X "list.append" KP:=by
 intro c_ s σ H x vs v us Q I rx rv h
 obtain⟨l,xs,y,rfl,rfl,hH,hz,q⟩:=h
 cases rx
 obtain⟨u,rfl,ru⟩:=rv.one
 obtain⟨z,hX,n,r,hl,e⟩:=I.Fe hH
 refine call_meets F.slot_list_append ⟨_,e,rfl⟩ F.entry_list_append (F.args_list_append_2 _ _) (PySem.list_append l hX.toArray n u (by rw[aag];omega)) ⟨e,?_⟩
 refine⟨.jn,_,I.Nk (its':=hX++[u]) hH e (by simp) (r.append (.cons ru .nil)) ?_,rfl,q⟩
 rw[UZ,List.length_singleton]
 omega
noncomputable def KQ:V→List V→Hp→VK→Prop:=fun x vs H Q=>∃l b xs zs,x=.ref l∧vs=[.ref b]∧H l=some (.lst xs)∧H b=some (.lst zs)∧xs.length+zs.length≤sizeLine∧Q .jn (upd H l (.lst (xs++zs)))
theorem A7:UG X "list.extend" KQ:=by
 intro c_ s σ H x vs v us Q I rx rv h
 obtain⟨l,b,xs,zs,rfl,rfl,hH,hB,hz,q⟩:=h
 cases rx
 obtain⟨u,rfl,ru⟩:=rv.one
 cases ru
 obtain⟨z,hX,n,r,hl,e⟩:=I.Fe hH
 obtain⟨z2,l0,n2,r2,HK,e2⟩:=I.Fe hB
 have hsz:hX.toArray.size+l0.toArray.size≤sizeLine:=by rw[aag,aag];omega
 have J0:¬(!hX.toArray.isEmpty&&Builtin.List.listTooLong (hX.toArray.size+l0.toArray.size))=true:=by
  rw[Dr hsz,Bool.and_false]
  exact aai
 refine call_meets F.slot_list_extend ⟨_,e,rfl⟩ F.entry_list_extend (F.args_list_extend_2 _ _)
  (AutoSeq1.list_extend_list_list_0 l hX.toArray n b l0.toArray n2 J0 (by rw[aag];omega) (by omega)) ⟨e,e2,?_⟩
 refine⟨.jn,_,I.Nk (its':=hX++l0) hH e (by simp) (r.append r2) ?_,rfl,q⟩
 rw[UZ]
 omega
noncomputable def UH:V→List V→Hp→VK→Prop:=fun x vs H Q=>∃l xs y,x=.ref l∧vs=[]∧H l=some (.lst xs)∧xs[xs.length-1]?=some y∧Q y (upd H l (.lst xs.dropLast))
theorem Nl:UG X "list.pop" UH:=by
 intro c_ s σ H x vs v us Q I rx rv h
 obtain⟨l,xs,y,rfl,rfl,hH,hy,q⟩:=h
 cases rx
 have hus:=rv.zero
 subst hus
 obtain⟨z,hX,n,r,hl,e⟩:=I.Fe hH
 obtain⟨u,hu,ru⟩:=r.get hy
 have Td:hX.toArray[hX.toArray.size-1]?=some u:=by
  show hX.toArray[hX.length-1]?=some u
  rw[←aa8,←hl]
  exact hu
 refine call_meets F.slot_list_pop ⟨_,e,rfl⟩ F.entry_list_pop (F.args_list_pop_1 _) (MeetsSeq.list_pop_last l hX.toArray n u Td (by rw[aag];omega)) ⟨e,?_⟩
 refine⟨y,_,I.Nk (its':=hX.dropLast) hH e ?_ r.dropLast ?_,ru,q⟩
 ·show hX.toArray.eraseIdxIfInBounds (hX.toArray.size-1)=hX.dropLast.toArray
  rw[aag,List.eraseIdxIfInBounds_toArray,Fd]
 ·rw[List.length_dropLast]
  omega
noncomputable def UI:R2:=fun x y H Q=>∃l b xs zs,x=.ref l∧y=.ref b∧H l=some (.lst xs)∧H b=some (.lst zs)∧xs.length+zs.length≤sizeLine∧∀p,H p=none→Q (.ref p) (upd H p (.lst (xs++zs)))
theorem l8:vW X (binaryOp .Add) UI:=by
 intro c_ s σ H x y v u Q I rx ry h
 obtain⟨l,b,xs,zs,rfl,rfl,hH,hB,hz,q⟩:=h
 cases rx
 cases ry
 obtain⟨z,hX,n,r,hl,e⟩:=I.Fe hH
 obtain⟨z2,l0,n2,r2,HK,e2⟩:=I.Fe hB
 refine PySem.P.add_list e e2 ?_ (by rw[aag,aag];omega)
 have ea:hX.toArray++l0.toArray=(hX++l0).toArray:=by simp
 rw[ea]
 exact⟨.ref _,_,I.KO (t':=s.toks) (r.append r2) (by rw[UZ];omega),rfl,q _ I.fresh⟩
noncomputable def UJ:R2:=fun x y H Q=>∃l k xs,x=.ref l∧y=.int k∧H l=some (.lst xs)∧-(2 ^ 63)≤k∧k<2 ^ 63∧xs.length*k.toNat≤sizeLine∧
 ∀p,H p=none→Q (.ref p) (upd H p (.lst (List.replicate k.toNat xs).flatten))
theorem len_rep{α:Type}(xs:List α)(k:Nat):(List.replicate k xs).flatten.length=k*xs.length:=by
 induction k with
 | zero=>simp
 | succ k ih=>rw[aba,abX,UZ,ih,Nat.succ_mul,Nat.add_comm]
theorem Ff:vW X (binaryOp .Mult) UJ:=by
 intro c_ s σ H x y v u Q I rx ry h
 obtain⟨l,k,xs,rfl,rfl,hH,h1,h2,hz,q⟩:=h
 cases rx
 obtain⟨t,rfl⟩:=ry
 obtain⟨z,hX,n,r,hl,e⟩:=I.Fe hH
 have hlen:hX.toArray.size*k.toNat≤sizeLine:=by rw[aag,←hl];exact hz
 have Vj:¬hX.toArray.size*k.toNat>(2 ^ 63-1)/8:=by
  have:(sizeLine:Nat)≤(2 ^ 63-1)/8:=by decide
  omega
 have Vk:¬(!Builtin.List.listFitsIndex k)=true:=by
  rw[fitsIndex_both h1 h2]
  exact aai
 have J0:¬Builtin.List.listTooLong (hX.toArray.size*k.toNat)=true:=by
  rw[Dr hlen]
  exact aai
 have Vl:List.foldl (fun x1 x2=>x1++x2) #[] (List.replicate (if hX.toArray.isEmpty=true then 0 else k.toNat) hX.toArray)=(List.replicate k.toNat hX).flatten.toArray:=by
  have f0:∀m:Nat,List.foldl (fun x1 x2=>x1++x2) #[] (List.replicate m hX.toArray)=(List.replicate m hX).flatten.toArray:=fun m=>by
   have:=foldl_rep hX m []
   rw[List.nil_append] at this
   exact this
  rw[f0]
  cases hX with
  | nil=>simp
  | cons a r'=>rw[aan (by simp)]
 refine wpAny_binaryOp_repeat_ref (T:="list") (U:="int") (by decide) ⟨_,e,rfl⟩ (fun s'=>typeIs_int s' k t) noFill_list_mul F.fills_int_mul F.slot_int_rmul repeat_list F.slot_int_index.lookup
  (call_meets F.slot_int_rmul (typeIs_int s k t) F.entry_int_rmul (F.args_int_rmul_2 _ _) (int___rmul___int_list k t l hX.toArray n)
   ⟨e,rfl,⟨_,e,rfl⟩,call_meets F.slot_list_mul ⟨_,e,rfl⟩ F.entry_list_mul (F.args_list_mul_2 _ _) (AutoListH.list___mul___list_int_3 l hX.toArray n k t Vk Vj J0) ⟨e,?_⟩⟩)
 rw[Vl]
 exact⟨.ref _,_,I.KO (t':=s.toks) (r.rep k.toNat) (by rw[len_rep,Nat.mul_comm];exact hz),rfl,q _ I.fresh⟩
end
section
variable{prog:Program}{w:World}{A:Around}{E:Qqq}{s:Shared}
end
section
variable{X:Cx}
end
section
variable{κ:Type}[DecidableEq κ]
noncomputable def iO(kvs:List (κ×V))(k:κ):Option V:=(kvs.find? fun kv=>decide (kv.1=k)).map (·.2)
noncomputable def putK(kvs:List (κ×V))(k:κ)(v:V):List (κ×V):=
 if(kvs.any fun kv=>decide (kv.1=k))=true then kvs.map (fun kv=>if kv.1=k then(kv.1,v) else kv) else kvs++[(k,v)]
noncomputable def jX(kvs:List (κ×V))(k:κ):List (κ×V):=kvs.filter fun kv=>decide (kv.1≠k)
theorem jm{p:κ×V}{r:List (κ×V)}{k:κ}(e:p.1=k):iO (p::r) k=some p.2:=by simp[iO,ab8,e]
theorem jg{p:κ×V}{r:List (κ×V)}{k:κ}(e:¬p.1=k):iO (p::r) k=iO r k:=by simp[iO,ab8,e]
theorem rg(k:κ):∀kvs:List (κ×V),(kvs.any fun kv=>decide (kv.1=k))=(iO kvs k).isSome
 | []=>rfl
 | p::r=>by
  rw[List.any_cons]
  by_cases e:p.1=k
  ·simp only [jm e,XU e,Bool.true_or,Option.isSome_some]
  ·rw[jg e,aah e,Bool.false_or];exact rg k r
theorem Ds(k j:κ)(y:V):∀kvs:List (κ×V),iO (kvs.map fun kv=>if kv.1=k then(kv.1,y) else kv) j=(iO kvs j).map fun x=>if j=k then y else x
 | []=>rfl
 | p::r=>by
  have ih:=Ds k j y r
  rw[aaw]
  by_cases h:p.1=k
  ·rw[aas h]
   by_cases e:p.1=j
   ·rw[jm (p:=(p.1,y)) e,jm e,ab9,aas (e.symm.trans h)]
   ·rw[jg (p:=(p.1,y)) e,jg e,ih]
  ·rw[aan h]
   by_cases e:p.1=j
   ·rw[jm (p:=p) e,jm e,ab9,aan (fun z=>h (e.trans z))]
   ·rw[jg (p:=p) e,jg e,ih]
theorem A8(k j:κ)(y:V):∀kvs:List (κ×V),iO kvs k=none→iO (kvs++[(k,y)]) j=if j=k then some y else iO kvs j
 | [],_=>by
  by_cases e:k=j
  ·rw[aas e.symm];exact jm (p:=(k,y)) e
  ·rw[aan (fun z=>e z.symm)];exact jg (p:=(k,y)) e
 | p::r,hn=>by
  rw[List.cons_append]
  have hk:¬p.1=k:=fun z=>by rw[jm z] at hn;cases hn
  rw[jg hk] at hn
  have ih:=A8 k j y r hn
  by_cases e:p.1=j
  ·rw[jm e,jm e,aan (fun z=>hk (e.trans z))]
  ·rw[jg e,jg e,ih]
theorem jY(kvs:List (κ×V))(k j:κ)(y:V):iO (putK kvs k y) j=if j=k then some y else iO kvs j:=by
 unfold putK
 by_cases a:(kvs.any fun kv=>decide (kv.1=k))=true
 ·rw[aas a,Ds]
  rw[rg] at a
  by_cases e:j=k
  ·obtain⟨x,hx⟩:=Option.isSome_iff_exists.mp a
   rw[aas e,e,hx,ab9,aas rfl]
  ·rw[aan e]
   cases iO kvs j with
   | none=>rfl
   | some x=>rw[ab9,aan e]
 ·rw[aan a]
  refine A8 k j y kvs ?_
  rw[rg] at a
  cases q:iO kvs k with
  | none=>rfl
  | some x=>rw[q] at a;exact(a rfl).elim
theorem ju(kvs:List (κ×V))(k:κ)(v:V):(putK kvs k v).length≤kvs.length+1:=by
 unfold putK
 split
 ·rw[RK];omega
 ·rw[UZ,aae,List.length_nil];omega
theorem Dt{kvs:List (κ×V)}{k:κ}(v:V)(h:iO kvs k=none):putK kvs k v=kvs++[(k,v)]:=by
 unfold putK
 rw[rg,h]
 exact aan (by decide)
theorem pq.pz{o:Option V}{u:Option Value}(r:pq o u):o.isSome=u.isSome:=by
 cases o with
 | none=>cases u with
  | none=>rfl
  | some _=>exact(show False from r).elim
 | some _=>cases u with
  | none=>exact(show False from r).elim
  | some _=>rfl
theorem pq.getD{o:Option V}{u:Option Value}{d:V}{d':Value}(r:pq o u)(rd:RelV d d'):RelV (o.getD d) (u.getD d'):=by
 cases o with
 | none=>cases u with
  | none=>exact rd
  | some _=>exact(show False from r).elim
 | some _=>cases u with
  | none=>exact(show False from r).elim
  | some _=>exact r
theorem KV.val{kvs:List (κ×V)}{vs:List (κ×Value)}(r:KV kvs vs)(k:κ):pq (iO kvs k) (valueAt vs k):=by
 unfold KV at r
 induction r with
 | nil=>exact True.intro
 | @cons p q ps qs h t ih=>
  obtain⟨h1,h2⟩:=h
  by_cases e:p.1=k
  ·have e':q.1=k:=h1.symm.trans e
   have b:valueAt (q::qs) k=some q.2:=by simp[valueAt,ab8,e']
   rw[jm e,b];exact h2
  ·have e':¬q.1=k:=fun z=>e (h1.trans z)
   have b:valueAt (q::qs) k=valueAt qs k:=by simp[valueAt,ab8,e']
   rw[jg e,b];exact ih
theorem KV.any{kvs:List (κ×V)}{vs:List (κ×Value)}(r:KV kvs vs)(k:κ):(kvs.any fun kv=>decide (kv.1=k))=vs.any fun kv=>decide (kv.1=k):=by
 unfold KV at r
 induction r with
 | nil=>rfl
 | cons h t ih=>rw[List.any_cons,List.any_cons,ih,h.1]
theorem KV.Nn{kvs:List (κ×V)}{vs:List (κ×Value)}(r:KV kvs vs)(k:κ){y:V}{u:Value}(ry:RelV y u) :
  KV (kvs.map fun kv=>if kv.1=k then(kv.1,y) else kv) (vs.map fun kv=>if kv.1=k then(kv.1,u) else kv):=by
 unfold KV at r ⊢
 induction r with
 | nil=>exact .nil
 | @cons p q ps qs h t ih=>
  rw[aaw,aaw]
  refine .cons ?_ ih
  obtain⟨h1,h2⟩:=h
  by_cases e:p.1=k
  ·rw[aas e,aas (h1.symm.trans e)];exact⟨h1,ry⟩
  ·rw[aan e,aan (fun z=>e (h1.trans z))];exact⟨h1,h2⟩
theorem KV.put{kvs:List (κ×V)}{vs:List (κ×Value)}(r:KV kvs vs)(k:κ){y:V}{u:Value}(ry:RelV y u):KV (putK kvs k y) (stored vs k u):=by
 unfold putK stored
 rw[r.any k]
 by_cases e:(vs.any fun kv=>decide (kv.1=k))=true
 ·rw[aas e,aas e];exact r.Nn k ry
 ·rw[aan e,aan e];exact Paired.snoc r ⟨rfl,ry⟩
theorem KV.drop{kvs:List (κ×V)}{vs:List (κ×Value)}(r:KV kvs vs)(k:κ):KV (jX kvs k) (without vs k):=by
 unfold KV at r ⊢
 unfold jX without
 induction r with
 | nil=>exact .nil
 | @cons p q ps qs h t ih=>
  obtain⟨h1,h2⟩:=h
  rw[List.filter_cons,List.filter_cons]
  by_cases e:p.1=k
  ·have a:¬decide (p.1≠k)=true:=by simp[e]
   have b:¬decide (q.1≠k)=true:=by simp[h1.symm.trans e]
   rw[aan a,aan b];exact ih
  ·have e':¬q.1=k:=fun z=>e (h1.trans z)
   have a:decide (p.1≠k)=true:=by simp[e]
   have b:decide (q.1≠k)=true:=by simp[e']
   rw[aas a,aas b];exact .cons ⟨h1,h2⟩ ih
theorem KV.length{kvs:List (κ×V)}{vs:List (κ×Value)}(r:KV kvs vs):kvs.length=vs.length:=aao r
theorem Du(kvs:List (κ×V))(k:κ):(jX kvs k).length≤kvs.length:=aaI _ _
end
theorem yW{P:Program}{w:World}{k:Key}{u:Value}(r:RelV (kV k) u):(jb P w).is k u=true:=by
 cases k with
 | inl i=>obtain⟨t,e⟩:=(show ∃t,u=Value.int i t from r);subst e;exact C6 P w i t
 | inr x=>obtain⟨t,e⟩:=(show ∃t,u=Value.str x t from r);subst e;exact C7 P w x t
theorem A9{P:Program}{w:World}:∀{ks:List Key} {us:List Value},Vals (ks.map kV) us→ItemsAre (jb P w) ks us
 | [],_,r=>by rw[List.map_nil] at r;cases r;exact .nil
 | k::ks,_,r=>by
  rw[aaw] at r
  cases r with
  | cons h t=>exact .cons (yW h) (A9 t)
abbrev KT(H:Hp):List (List Key×V)→List (List Key×Addr×Value)→Prop:=Paired fun p q=>p.1=q.1∧H q.2.1=some (.tup (p.1.map kV))∧RelV p.2 q.2.2
theorem KT.val{H:Hp}{kvs:List (List Key×V)}{xs:List (List Key×Addr×Value)}(r:KT H kvs xs)(k:List Key):pq (iO kvs k) ((atKey xs k).map (·.2)):=by
 induction r with
 | nil=>exact True.intro
 | @cons p q ps qs h t ih=>
  obtain⟨h1,_,h2⟩:=h
  by_cases e:p.1=k
  ·have e':q.1=k:=h1.symm.trans e
   have b:atKey (q::qs) k=some q.2:=by simp[atKey,ab8,e']
   rw[jm e,b];exact h2
  ·have e':¬q.1=k:=fun z=>e (h1.trans z)
   have b:atKey (q::qs) k=atKey qs k:=by simp[atKey,ab8,e']
   rw[jg e,b];exact ih
theorem KT.Nn{H:Hp}{kvs:List (List Key×V)}{xs:List (List Key×Addr×Value)}(r:KT H kvs xs)(k:List Key){y:V}{u:Value}(ry:RelV y u) :
  KT H (kvs.map fun kv=>if kv.1=k then(kv.1,y) else kv) (xs.map (putAt k u)):=by
 induction r with
 | nil=>exact .nil
 | @cons p q ps qs h t ih=>
  rw[aaw,aaw]
  refine .cons ?_ ih
  obtain⟨h1,h2,h3⟩:=h
  unfold putAt
  by_cases e:p.1=k
  ·rw[aas e,aas (h1.symm.trans e)];exact⟨h1,h2,ry⟩
  ·rw[aan e,aan (fun z=>e (h1.trans z))];exact⟨h1,h2,h3⟩
theorem KT.put{H:Hp}{kvs:List (List Key×V)}{xs:List (List Key×Addr×Value)}(r:KT H kvs xs)(k:List Key){b:Addr}{y:V}{u:Value}(hb:H b=some (.tup (k.map kV)))(ry:RelV y u) :
  KT H (putK kvs k y) (storedH xs k b u):=by
 have e:(kvs.any fun kv=>decide (kv.1=k))=(atKey xs k).isSome:=by
  rw[rg,(r.val k).pz,Option.isSome_map]
 unfold putK storedH
 rw[e]
 by_cases q:(atKey xs k).isSome=true
 ·rw[aas q,aas q];exact r.Nn k ry
 ·rw[aan q,aan q];exact Paired.snoc r ⟨rfl,hb,ry⟩
theorem KT.keeps{H H':Hp}{kvs:List (List Key×V)}{xs:List (List Key×Addr×Value)}(r:KT H kvs xs)(ht:∀b ys,H b=some (.tup ys)→H' b=some (.tup ys)):KT H' kvs xs:=
 Paired.kS r fun _ _ z=>⟨z.1,ht _ _ z.2.1,z.2.2⟩
section
variable{P:Program}{w:World}{H:Hp}{h:Heap}{a:Addr}
theorem Mh{u:HO}(ok:qJ P w H h)(e:Rd H a u):i5 P w H h a u:=e.ok ok
theorem xj{kvs:List (Key×V)}(ok:qJ P w H h)(e:Rd H a (.dK kvs)):kvs.length≤sizeLine∧(a ==sysModules)=false∧∃vs,KV kvs vs∧h.DictOf (jb P w) a vs:=
 show i5 P w H h a (.dK kvs) from Mh ok e
theorem IA{kvs:List (Key×V)}(ok:qJ P w H h)(e:H a=some (.dK kvs)):kvs.length≤sizeLine∧(a ==sysModules)=false∧∃vs,KV kvs vs∧h.DictOf (jb P w) a vs:=xj ok (.inl e)
theorem t9{ks:List Key}(ok:qJ P w H h)(e:H a=some (.tup (ks.map kV))):(tupleKind (jb P w)).is h ks a:=by
 obtain⟨_,hX,r,o,h1,h2,n,h3⟩:=(show i5 P w H h a (.tup (ks.map kV)) from ok a _ e)
 exact⟨o,hX.toArray,n,h1,h2,h3,by simpa using A9 r⟩
theorem xk{kvs:List (List Key×V)}(ok:qJ P w H h)(e:Rd H a (.dT kvs)):kvs.length≤sizeLine∧(a ==sysModules)=false∧
  ∃xs,KT H kvs xs∧h.DictOfH (tupleKind (jb P w)) a xs:=by
 obtain⟨z,y,xs,r,o,es,ep,h1,h2,h3,h4,h5⟩:=(show i5 P w H h a (.dT kvs) from Mh ok e)
 refine⟨z,y,xs,r,o,es,ep,h1,h2,h3,h4,fun x hx=>?_,h5⟩
 have all:∀{l:List (List Key×V)} {m:List (List Key×Addr×Value)},KT H l m→∀x∈m,(tupleKind (jb P w)).is h x.1 x.2.1:=by
  intro l m q
  induction q with
  | nil=>intro x hx;exact nomatch hx
  | @cons p q ps qs hq t ih=>
   intro x hx
   rcases XW.mp hx with e|hx
   ·subst e
    exact t9 ok (by rw[←hq.1];exact hq.2.1)
   ·exact ih x hx
 exact all r x hx
theorem IB{kvs:List (List Key×V)}(ok:qJ P w H h)(e:H a=some (.dT kvs)):kvs.length≤sizeLine∧(a ==sysModules)=false∧
 ∃xs,KT H kvs xs∧h.DictOfH (tupleKind (jb P w)) a xs:=xk ok (.inl e)
end
def iT(H:Hp)(a:Addr)(y:V)(r:Option V):Prop:=
 (∃kvs k,Rd H a (.dK kvs)∧y=kV k∧r=iO kvs k)∨∃kvs k b,Rd H a (.dT kvs)∧y=.ref b∧H b=some (.tup (k.map kV))∧r=iO kvs k
def l9(H:Hp)(a:Addr)(y v:V)(H':Hp):Prop:=
 (∃kvs k,H a=some (.dK kvs)∧y=kV k∧kvs.length<sizeLine∧H'=upd H a (.dK (putK kvs k v)))∨
 ∃kvs k b,H a=some (.dT kvs)∧y=.ref b∧H b=some (.tup (k.map kV))∧kvs.length<sizeLine∧H'=upd H a (.dT (putK kvs k v))
theorem iT.k{H:Hp}{a:Addr}{kvs:List (Key×V)}{k:Key}(e:H a=some (.dK kvs)):iT H a (kV k) (iO kvs k):=.inl ⟨kvs,k,.inl e,rfl,rfl⟩
theorem iT.t{H:Hp}{a b:Addr}{kvs:List (List Key×V)}{k:List Key}(e:H a=some (.dT kvs))(eb:H b=some (.tup (k.map kV))):iT H a (.ref b) (iO kvs k):=.inr ⟨kvs,k,b,.inl e,rfl,eb,rfl⟩
theorem l9.k{H:Hp}{a:Addr}{kvs:List (Key×V)}{k:Key}{v:V}(e:H a=some (.dK kvs))(hl:kvs.length<sizeLine):l9 H a (kV k) v (upd H a (.dK (putK kvs k v))):=.inl ⟨kvs,k,e,rfl,hl,rfl⟩
theorem l9.t{H:Hp}{a b:Addr}{kvs:List (List Key×V)}{k:List Key}{v:V}(e:H a=some (.dT kvs))(eb:H b=some (.tup (k.map kV)))(hl:kvs.length<sizeLine) :
 l9 H a (.ref b) v (upd H a (.dT (putK kvs k v))):=.inr ⟨kvs,k,b,e,rfl,eb,hl,rfl⟩
section
variable{X:Cx}{c_:Qqz}{σ:St}{H:Hp}{s:Shared}{a:Addr}{y v:V}{u r:Value}{o:Option V}{A:Around}{E:Qqq}
theorem Inv.big(I:Inv X c_ σ H s):sysModules<s.heap.objs.size:=by
 have h:mainGlobals<s.heap.objs.size:=(I.mod.glob.keeps I.bk).lt
 exact Nat.lt_trans (by decide) h
theorem G7{Q:Qqq}(hu:A.units+1<cLine)(I:Inv X c_ σ H s)(g:iT H a y (some v))(ry:RelV y u)(h:∀w' s',Inv X c_ σ H s'→RelV v w'→Q w' s') :
  wpAny (model X.prog X.w) A (getItem (.ref a) u) Q E s:=by
 rcases g with⟨kvs,k,e,ey,l⟩|⟨kvs,k,b,e,ey,eb,l⟩
 ·subst ey
  obtain⟨z,hd,vs,rel,dd⟩:=xj I.iH e
  obtain⟨w',hw,AV⟩:=pq.some_of (v:=v) (o:=valueAt vs k) (by rw[l];exact rel.val k)
  exact wpAny_getItem_of (yW ry) dd.mapOf hw (h w' _ (I.tok _) AV)
 ·subst ey
  cases (show u=Value.ref b from ry)
  obtain⟨z,hd,xs,rel,dd⟩:=xk I.iH e
  obtain⟨w',hw,AV⟩:=pq.some_of (v:=v) (o:=(atKey xs k).map (·.2)) (by rw[l];exact rel.val k)
  obtain⟨p,hp,AA⟩:=aaF.mp hw
  refine wpAny_getItem_heap (abC hu) (t9 I.iH eb) dd hp ?_
  rw[AA]
  exact h w' _ (I.tok _) AV
theorem UK{Q:Qqq}(hu:A.units+1<cLine)(I:Inv X c_ σ H s)(g:iT H a y o)(ry:RelV y u)(h:∀s',Inv X c_ σ H s'→Q (.bool o.isSome) s') :
  wpAny (model X.prog X.w) A (compareOp .In u (.ref a)) Q E s:=by
 rcases g with⟨kvs,k,e,ey,l⟩|⟨kvs,k,b,e,ey,eb,l⟩
 ·subst ey
  obtain⟨z,hd,vs,rel,dd⟩:=xj I.iH e
  refine wpAny_in_of (yW ry) hd dd.mapOf ?_
  rw[←(rel.val k).pz,←l]
  exact h _ (I.tok _)
 ·subst ey
  cases (show u=Value.ref b from ry)
  obtain⟨z,hd,xs,rel,dd⟩:=xk I.iH e
  refine wpAny_in_heap (abC hu) (t9 I.iH eb) hd dd ?_
  have q:=(rel.val k).pz
  rw[Option.isSome_map] at q
  rw[←q,←l]
  exact h _ (I.tok _)
theorem KR{Q:Qqq}(hu:A.units+1<cLine)(I:Inv X c_ σ H s)(g:iT H a y o)(ry:RelV y u)(h:∀s',Inv X c_ σ H s'→Q (.bool (!o.isSome)) s') :
  wpAny (model X.prog X.w) A (compareOp .NotIn u (.ref a)) Q E s:=by
 rcases g with⟨kvs,k,e,ey,l⟩|⟨kvs,k,b,e,ey,eb,l⟩
 ·subst ey
  obtain⟨z,hd,vs,rel,dd⟩:=xj I.iH e
  refine wpAny_notIn_of (yW ry) hd dd.mapOf ?_
  rw[←(rel.val k).pz,←l]
  exact h _ (I.tok _)
 ·subst ey
  cases (show u=Value.ref b from ry)
  obtain⟨z,hd,xs,rel,dd⟩:=xk I.iH e
  refine wpAny_notIn_heap (abC hu) (t9 I.iH eb) hd dd ?_
  have q:=(rel.val k).pz
  rw[Option.isSome_map] at q
  rw[←q,←l]
  exact h _ (I.tok _)
theorem sH{h':Heap}{t':Nat}{ob:HO}(I:Inv X c_ σ H s)(mu:L9 (H a))(hs:Heap.SameBut a s.heap h')(he:∃q,h'.get? a=some q)(new:i5 X.prog X.w (upd H a ob) h' a ob) :
  Inv X c_ σ (upd H a ob) {s with heap:=h',toks:=t'}:=
 I.write (x:=a) (e:=a) mu (.inl rfl) (fun b q hb z=>(hs.2 b hb).trans z) he new
theorem Fg{P:Program}{w:World}{H':Hp}{h':Heap}{kvs:List (Key×V)}{vs:List (Key×Value)}(z:kvs.length≤sizeLine)(hd:(a ==sysModules)=false)(rel:KV kvs vs)(dd:h'.DictOf (jb P w) a vs) :
 i5 P w H' h' a (.dK kvs):=⟨z,hd,vs,rel,dd⟩
theorem G8{H':Hp}{Q:Unit→Shared→Prop}(hu:A.units+1<cLine)(I:Inv X c_ σ H s)(g:l9 H a y v H')(ry:RelV y u)(rv:RelV v r)(h:∀s',Inv X c_ σ H' s'→Q () s') :
  wpAny (model X.prog X.w) A (setItem (.ref a) u r) Q E s:=by
 rcases g with⟨kvs,k,e,ey,l,eH⟩|⟨kvs,k,b,e,ey,eb,l,eH⟩
 ·subst ey eH
  obtain⟨z,hd,vs,rel,dd⟩:=IA I.iH e
  have hz:vs.length≤sizeLine:=by rw[←rel.length];exact z
  have hl:(putK kvs k v).length≤sizeLine:=by have:=ju kvs k v;omega
  refine wpAny_setItem_pairs (hsz:=hz) (yW ry) dd fun h' Ku hs=>h _ ?_
  have he:∃q,h'.get? a=some q:=let ⟨q,_,_,hq,_⟩:=Ku;⟨q,hq⟩
  exact sH I (by rw[e];exact True.intro) hs he (Fg hl hd (rel.put k rv) Ku)
 ·subst ey eH
  cases (show u=Value.ref b from ry)
  obtain⟨z,hd,xs,rel,dd⟩:=IB I.iH e
  have hz:xs.length≤sizeLine:=by rw[←aao rel];exact z
  have hl:(putK kvs k v).length≤sizeLine:=by have:=ju kvs k v;omega
  refine wpAny_setItem_heap (hsz:=hz) (abC hu) (t9 I.iH eb) dd fun h' Ku hs=>h _ ?_
  obtain⟨q,es,ep,hq,h2,h3,h4,_,h5⟩:=Ku
  refine sH I (by rw[e];exact True.intro) hs ⟨q,hq⟩ ⟨hl,hd,_,(rel.put k eb rv).keeps fun c ys ec=>?_,q,es,ep,hq,h2,h3,h4,h5⟩
  rw[d_ (i9 ec e (fun z=>nomatch z))]
  exact ec
end
section
variable{X:Cx}{c_:Qqz}{σ:St}{H:Hp}{s:Shared}{a:Addr}{kvs:List (Key×V)}{k:Key}{u:Value}{A:Around}{E:Qqq}
theorem Qr{v:V}{more:List Value}{Q:Qqq}(I:Inv X c_ σ H s)(e:H a=some (.dK kvs))(ry:RelV (kV k) u)(l:iO kvs k=some v)(hm:more=[]∨∃x,more=[x])
  (h:∀w' s',Inv X c_ σ (upd H a (.dK (jX kvs k))) s'→RelV v w'→Q w' s'):wpAny (model X.prog X.w) A (call (.builtin "dict.pop") (.ref a::u::more)) Q E s:=by
 obtain⟨z,hd,vs,rel,dd⟩:=IA I.iH e
 obtain⟨w',hw,AV⟩:=pq.some_of (v:=v) (o:=valueAt vs k) (by rw[←l];exact rel.val k)
 have hp:(keyPart u).isSome=true:=by
  cases k with
  | inl i=>obtain⟨t,q⟩:=(show ∃t,u=Value.int i t from ry);subst q;rfl
  | inr x=>obtain⟨t,q⟩:=(show ∃t,u=Value.str x t from ry);subst q;rfl
 have ha:argsOk "dict.pop" ⟨.ref a::u::more,[]⟩:=by
  rcases hm with q|⟨x,q⟩
  ·subst q;exact PySem.F.args_dict_pop_2 _ _
  ·subst q;exact PySem.F.args_dict_pop_3 _ _ _
 refine call_meetsIn ab_ dd.typeIs PySem.F.entry_dict_pop ha (meets_dict_pop_there (jb X.prog X.w) a (yW ry) more hm hp)
  ⟨vs,w',dd,by rw[←rel.length];exact z,hw,fun h' Ku hs=>h w' _ ?_ AV⟩
 have he:∃q,h'.get? a=some q:=let ⟨q,_,_,hq,_⟩:=Ku;⟨q,hq⟩
 exact sH I (by rw[e];exact True.intro) hs he (Fg (aad (Du kvs k) z) hd (rel.drop k) Ku)
end
def Np(i:Expr):Prop:=∀ov iv,subscripted i false ov iv=operate [ov,iv] (getItem ov iv)
theorem KS{prog:Program}{w:World}{A:Around}{E:Qqq}{s:Shared}{env:Env}{value slice:Expr}{pos:Pos}{T id:String}{Q:Qqq}
  (hl:typeLookup (.type T) "__getitem__"=pure (some (.builtin id))) (hs:Np slice)
  (h:wpAny (model prog w) A (eval value env) (fun o s₁=>wpAny (model prog w) A (eval slice env) (fun i s₂=>s₂.TypeIs o T∧wpAny (model prog w) A (getItem o i) Q E s₂) E s₁) E s) :
  wpAny (model prog w) A (eval (.Subscript value slice pos) env) Q E s:=by
 refine Subscript_ (abp h (fun o s₁ h₁=>abp h₁ (fun i s₂ h₂=>?_) fun _ _ x=>x) fun _ _ x=>x)
 obtain⟨hT,h₂⟩:=h₂
 unfold subscriptTail
 refine UP ?_
 rw[getitemInPython_of_ne hT.not_modules]
 refine UP (aca hT hl ?_)
 have fin:wpAny (model prog w) A (subscripted slice false o i) (fun r s₃=>wpAny (model prog w) A (letTemporaryGo value o r >>= fun _=>pure r) Q E s₃) E s₂:=by
  rw[hs o i]
  exact wpAny_operating (abp h₂ (fun r s₃ h₃=>UP (wpAny_letTemporaryGo (aab h₃))) fun _ _ x=>x)
 first
  | exact aab (UP fin)
  | exact UP (aab (UP fin))
  | exact UP fin
theorem Dw{X:Cx}{c_:Qqz}{σ:St}{H:Hp}{s:Shared}{a:Addr}{y:V}{o:Option V}(I:Inv X c_ σ H s)(g:iT H a y o):s.TypeIs (.ref a) "dict":=by
 rcases g with⟨kvs,k,e,_,_⟩|⟨kvs,k,b,e,_,_,_⟩
 ·obtain⟨_,_,vs,_,dd⟩:=xj I.iH e
  exact dd.typeIs
 ·obtain⟨_,_,xs,_,dd⟩:=xk I.iH e
  exact dd.typeIs
def Mi(td ty:TE):TE:=fun σ H Q=>td σ H fun x H1=>ty σ H1 fun y H2=>∃a v,x=.ref a∧iT H2 a y (some v)∧Q v H2
def UL(ty td:TE):TE:=fun σ H Q=>ty σ H fun y H1=>td σ H1 fun x H2=>∃a o,x=.ref a∧iT H2 a y o∧Q (.bl o.isSome) H2
def KU(ty td:TE):TE:=fun σ H Q=>ty σ H fun y H1=>td σ H1 fun x H2=>∃a o,x=.ref a∧iT H2 a y o∧Q (.bl (!o.isSome)) H2
def Qs(td ty tv:TE):TS:=fun D σ H=>tv σ H fun v H1=>td σ H1 fun x H2=>ty σ H2 fun y H3=>∃a H4,x=.ref a∧l9 H3 a y v H4∧D.nx σ H4
section
variable{X:Cx}{o i e value:Expr}{pos pos' OJ:Pos}{td ty tv:TE}
theorem KW(hu:X.A.units+1<cLine)(ho:PE X o td)(hi:PE X i ty)(hs:Np i):PE X (.Subscript o i pos) (Mi td ty):=by
 intro c_ s σ H Q I h
 refine KS PySem.F.slot_dict_getitem.lookup hs (i3 (ho c_ s σ H _ I h) fun u s1 ⟨x,H1,I1,rx,q1⟩=>i3 (hi c_ s1 σ H1 _ I1 q1) fun iv s2 ⟨y,H2,I2,ry,a,v,ex,g,q2⟩=>?_)
 subst ex
 obtain rfl:u=Value.ref a:=rx
 exact⟨Dw I2 g,G7 hu I2 g ry fun w' s3 I3 AV=>⟨v,H2,I3,AV,q2⟩⟩
theorem mS(hu:X.A.units+1<cLine)(hi:PE X i ty)(ho:PE X o td):PC X .In i o (UL ty td):=by
 intro c_ s σ H Q I h
 refine i3 (hi c_ s σ H _ I h) fun iv s1 ⟨y,H1,I1,ry,q1⟩=>i3 (ho c_ s1 σ H1 _ I1 q1) fun u s2 ⟨x,H2,I2,rx,a,ov,ex,g,q2⟩=>?_
 subst ex
 obtain rfl:u=Value.ref a:=rx
 exact UK hu I2 g ry fun s3 I3=>⟨.bl ov.isSome,H2,I3,rfl,q2⟩
theorem kG(hu:X.A.units+1<cLine)(hi:PE X i ty)(ho:PE X o td):PC X .NotIn i o (KU ty td):=by
 intro c_ s σ H Q I h
 refine i3 (hi c_ s σ H _ I h) fun iv s1 ⟨y,H1,I1,ry,q1⟩=>i3 (ho c_ s1 σ H1 _ I1 q1) fun u s2 ⟨x,H2,I2,rx,a,ov,ex,g,q2⟩=>?_
 subst ex
 obtain rfl:u=Value.ref a:=rx
 exact KR hu I2 g ry fun s3 I3=>⟨.bl (!ov.isSome),H2,I3,rfl,q2⟩
theorem jc(hu:X.A.units+1<cLine)(ho:PE X o td)(hi:PE X i ty)(hv:PE X value tv)(hs:swapsWith value (some (.Subscript o i pos')) pos.line X.env=pure false) :
  PS X (.Assign [.Subscript o i pos'] value pos) (Qs td ty tv):=by
 intro c_ s σ H D I h
 refine wpAny_Assign_Subscript (i3 (hv c_ s σ H _ I h) fun r s1 ⟨v,H1,I1,rv,q1⟩=>i3 (ho c_ s1 σ H1 _ I1 q1) fun u s2 ⟨x,H2,I2,rx,q2⟩=>i3 (hi c_ s2 σ H2 _ I2 q2) fun iv s3 ⟨y,H3,I3,ry,a,H4,ex,g,q3⟩=>?_) hs
 subst ex
 obtain rfl:u=Value.ref a:=rx
 exact G8 hu I3 g ry rv fun s4 I4=>⟨σ,H4,I4,q3⟩
end
theorem IC{P:Program}{w:World}{H:Hp}(h:Heap)(hb:sysModules<h.objs.size):i5 P w H (h.push {cls:=.type "dict",data:=.dict #[]}) h.objs.size (.dK []):=
 ⟨aaK _,abK.mpr (abQ (aaW hb)),[],.nil,Heap.DictOf.new h⟩
theorem ID{P:Program}{w:World}{H:Hp}(h:Heap)(hb:sysModules<h.objs.size):i5 P w H (h.push {cls:=.type "dict",data:=.dict #[]}) h.objs.size (.dT []):=
 ⟨aaK _,abK.mpr (abQ (aaW hb)),[],.nil,_,#[],0,aaz _ rfl,⟨rfl,rfl,rfl⟩,rfl,rfl,abb⟩
def Nq:TE:=fun _ H Q=>∀p,H p=none→Q (.ref p) (upd H p (.dK []))
def Nr:TE:=fun _ H Q=>∀p,H p=none→Q (.ref p) (upd H p (.dT []))
section
variable{X:Cx}{pos:Pos}
theorem lI:PE X (.Dict [] [] pos) Nq:=fun c_ s σ H Q I h=>
 wpAny_Dict_empty ⟨.ref s.heap.objs.size,_,I.laid (a:=s.heap.objs.size) (o:=.dK []) (t':=s.toks) (fun _ _ q=>aac _ q) (U0 _) (IC s.heap I.big),rfl,h _ (I.iH.fresh (U0 _))⟩
theorem mF:PE X (.Dict [] [] pos) Nr:=fun c_ s σ H Q I h=>
 wpAny_Dict_empty ⟨.ref s.heap.objs.size,_,I.laid (a:=s.heap.objs.size) (o:=.dT []) (t':=s.toks) (fun _ _ q=>aac _ q) (U0 _) (ID s.heap I.big),rfl,h _ (I.iH.fresh (U0 _))⟩
end
structure M1(X:Cx)(o:Expr)(m:Str)(apos:Pos)(e:Expr)(kU:Pos):Prop where
 base:attributeBase o m X.env (eval o X.env)=eval o X.env
 jQ:((backTo kU (starEach [e] X.env)).all (fun x=>!x.1)&&(backToKw kU (keywordEach [] X.env)).all (fun x=>x.1.isSome)
  &&decide (([e]:List Expr).length+([]:List Keyword).length+(if([]:List Keyword).isEmpty then 0 else 1)<30))=true
 line:(apos.endLine ==kU.line)=true
 trees:backTo kU (starEach [e] X.env)=[(false,eval e X.env)]
structure M2(X:Cx)(o:Expr)(m:Str)(apos:Pos)(e f:Expr)(kU:Pos):Prop where
 base:attributeBase o m X.env (eval o X.env)=eval o X.env
 jQ:((backTo kU (starEach [e,f] X.env)).all (fun x=>!x.1)&&(backToKw kU (keywordEach [] X.env)).all (fun x=>x.1.isSome)
  &&decide (([e,f]:List Expr).length+([]:List Keyword).length+(if([]:List Keyword).isEmpty then 0 else 1)<30))=true
 line:(apos.endLine ==kU.line)=true
 trees:backTo kU (starEach [e,f] X.env)=[(false,eval e X.env),(false,eval f X.env)]
def Po(H:Hp)(a:Addr):Prop:=(∃kvs,Rd H a (.dK kvs))∨∃kvs,Rd H a (.dT kvs)
theorem yX{X:Cx}{c_:Qqz}{σ:St}{H:Hp}{s:Shared}{a:Addr}(I:Inv X c_ σ H s)(d:Po H a) :
  s.TypeIs (.ref a) "dict"∧(∀b,Value.ref a=.ref b→∃ob,s.heap.get? b=some ob∧ob.dict=none)∧(a ==sysModules)=false:=by
 rcases d with⟨kvs,e⟩|⟨kvs,e⟩
 ·obtain⟨_,hd,vs,_,dd⟩:=xj I.iH e
  refine⟨dd.typeIs,fun b q=>?_,hd⟩
  cases q
  obtain⟨ob,_,_,h1,h2,_⟩:=dd
  exact⟨ob,h1,h2.2.1⟩
 ·obtain⟨_,hd,xs,_,dd⟩:=xk I.iH e
  refine⟨dd.typeIs,fun b q=>?_,hd⟩
  cases q
  obtain⟨ob,_,_,h1,h2,_⟩:=dd
  exact⟨ob,h1,h2.2.1⟩
section
variable{X:Cx}{c_:Qqz}{σ:St}{H:Hp}{s:Shared}{a:Addr}{y d:V}{u r:Value}{o:Option V}{A:Around}{E:Qqq}
theorem Nt{Q:Qqq}(hu:A.units+1<cLine)(I:Inv X c_ σ H s)(g:iT H a y o)(ry:RelV y u)(rd:RelV d r)(h:∀w' s',Inv X c_ σ H s'→RelV (o.getD d) w'→Q w' s') :
  wpAny (model X.prog X.w) A (call (.builtin "dict.get") [.ref a,u,r]) Q E s:=by
 rcases g with⟨kvs,k,e,ey,l⟩|⟨kvs,k,b,e,ey,eb,l⟩
 ·subst ey
  obtain⟨z,hd,vs,rel,dd⟩:=xj I.iH e
  refine call_meetsIn PySem.F.slot_dict_get dd.typeIs PySem.F.entry_dict_get (PySem.F.args_dict_get_3 _ _ _) (meets_dict_get_default (jb X.prog X.w) a (yW ry) hd r) ⟨_,dd.mapOf,h _ _ (I.tok _) ?_⟩
  rw[l]
  exact(rel.val k).getD rd
 ·subst ey
  cases (show u=Value.ref b from ry)
  obtain⟨z,hd,xs,rel,dd⟩:=xk I.iH e
  refine call_meetsIn PySem.F.slot_dict_get dd.typeIs PySem.F.entry_dict_get (PySem.F.args_dict_get_3 _ _ _) (meetsH_dict_get_default (tupleKind (jb X.prog X.w)) a b hd r) ⟨abC hu,k,xs,t9 I.iH eb,dd,h _ _ (I.tok _) ?_⟩
  rw[l]
  exact(rel.val k).getD rd
end
def Nu(td ty tx:TE):TE:=fun σ H Q=>td σ H fun x H1=>∃a,x=.ref a∧Po H1 a∧ty σ H1 fun y H2=>tx σ H2 fun z H3=>∃o,iT H3 a y o∧Q (o.getD z) H3
def Nv(td ty:TE):TE:=fun σ H Q=>td σ H fun x H1=>∃a,x=.ref a∧Po H1 a∧ty σ H1 fun y H2=>∃kvs k v,H2 a=some (.dK kvs)∧y=kV k∧iO kvs k=some v∧Q v (upd H2 a (.dK (jX kvs k)))
section
variable{X:Cx}{o e f:Expr}{apos kU:Pos}{td ty tx:TE}
theorem IE(hu:X.A.units+1<cLine)(ho:PE X o td)(he:PE X e ty)(hf:PE X f tx)(m:M2 X o "get" apos e f kU):PE X (.Call (.Attribute o "get" apos) [e,f] [] kU) (Nu td ty tx):=by
 intro c_ s σ H Q I h
 refine wpAny_Call_method m.base m.jQ m.line abH PySem.F.slot_dict_get PySem.F.type_dict_get (i3 (ho c_ s σ H _ I h) fun u s1 ⟨x,H1,I1,rx,a,ex,d,q1⟩=>?_)
 subst ex
 obtain rfl:u=Value.ref a:=rx
 obtain⟨t1,t2,_⟩:=yX I1 d
 refine⟨t1,t2,?_⟩
 rw[m.trees]
 refine abh rfl (abq (abf (i3 (he c_ s1 σ H1 _ I1 q1) fun iv s2 ⟨y,H2,I2,ry,q2⟩=>
  abf (i3 (hf c_ s2 σ H2 _ I2 q2) fun fv s3 ⟨z,H3,I3,rz,ov,g,q3⟩=>abv ?_))))
 exact Nt hu I3 g ry rz fun w' s4 I4 AV=>⟨_,H3,I4,AV,q3⟩
theorem IF(ho:PE X o td)(he:PE X e ty)(m:M1 X o "pop" apos e kU):PE X (.Call (.Attribute o "pop" apos) [e] [] kU) (Nv td ty):=by
 intro c_ s σ H Q I h
 refine wpAny_Call_method m.base m.jQ m.line abH ab_ PySem.F.type_dict_pop (i3 (ho c_ s σ H _ I h) fun u s1 ⟨x,H1,I1,rx,a,ex,d,q1⟩=>?_)
 subst ex
 obtain rfl:u=Value.ref a:=rx
 obtain⟨t1,t2,_⟩:=yX I1 d
 refine⟨t1,t2,?_⟩
 rw[m.trees]
 refine abh rfl (abq (abf (i3 (he c_ s1 σ H1 _ I1 q1) fun iv s2 ⟨y,H2,I2,ry,kvs,k,v,ea,ey,l,q2⟩=>abv ?_)))
 subst ey
 exact Qr I2 ea ry l (.inl rfl) fun w' s3 I3 AV=>⟨v,_,I3,AV,q2⟩
end
section
variable{X:Cx}{c_:Qqz}{σ:St}{H:Hp}{s:Shared}{a:Addr}{kvs:List (Key×V)}{A:Around}{E:Qqq}
end
section
variable{X:Cx}{c_:Qqz}{σ:St}{H:Hp}{s:Shared}{a:Addr}{y:V}{u:Value}{A:Around}{E:Qqq}
end
end L2
namespace XT
open PySem PySem.W PySem.Calls PyProof.Rows
theorem yg{P:Params}{h:Heap}:∀(ns:List Int)(vs:List Value),WellAll P h vs (ns.map WData.int)→IntsAre vs ns:=by
 intro ns
 induction ns with
 | nil=>
  intro vs w
  rw[List.map_nil] at w
  cases w
  exact .nil
 | cons n ns ih=>
  intro vs w
  rw[aaw] at w
  cases w with
  | cons a b=>
   cases a
   exact .cons _ _ (ih _ b)
theorem G9{l:OpenLaw}{n:Nat}(hn:l.most=some n){P:Params}{h:Heap}{args:List WData}{vals:List Value}
  (HL:l.row.toRowW.claim.pre args=true) (Mx:WellAll P h vals args) :
  ∃a vs ns,vals=[Value.ref a]∧args=[WData.list (ns.map WData.int)]∧h.get? a=some {cls:=.type "list",data:=.seq vs.toArray}∧IntsAre vs ns∧ns.length≤n:=by
 have hsh:WShape.hasAll [] args [.list .int]=true:=(pre_splitW HL).1
 have hc:l.pre.holds [] {args:=args}=true:=(pre_splitW HL).2
 obtain⟨d,r,rfl,h1,h2⟩:=hasAllW_cons hsh
 obtain rfl:=hasAllW_nil h2
 obtain⟨xs,rfl,h3⟩:=hasW_list h1
 obtain⟨ns,rfl⟩:=items_int h3
 have hlen:ns.length≤n:=by
  unfold OpenLaw.pre at hc
  have h4:(WTm.not (.lt (.lit (.int (n:Int))) (.len (.arg 0)))).holds [] {args:=[.list (ns.map .int)]}=true:=by
   have h4:=(holds_andW hc).1
   rw[hn] at h4
   exact h4
  have h5:=condW_of h4 (w_not (w_lt w_lit (w_len_list (w_arg rfl))))
  rw[RK] at h5
  refine Nat.le_of_not_lt fun q=>?_
  have q':(n:Int)<((ns.length:Nat):Int):=by omega
  first
   | (rw[XU q'] at h5;exact absurd h5 (by decide))
   | (simp at h5;omega)
 cases Mx with
 | cons w1 w2=>
  cases w2
  cases w1 with
  | list ho CG=>exact⟨_,_,ns,rfl,rfl,ho,yg ns _ CG,hlen⟩
theorem G_(l:OpenLaw)(args:List WData):l.row.toRowW.claim.post args (.bool true) args=true:=
 postW_of (r:=l.row.toRowW) (X:=(true ==true))
  (show WShape.has [] (.bool true) .bool=true by first|rfl|decide|simp[WShape.has,WShape.arms,WShape.armsAll])
  (show(WTm.eq .res (.lit (.bool true))).value [] {args:=args,res:=some (.bool true),after:=args}=some (.bool (true ==true)) from w_eq_bool (w_res rfl) w_lit) rfl
theorem Dx{l:OpenLaw}{n:Nat}{q:Program}{loose:List Str}{XP:(Qqx)→Heap→Prop}{YP:World→Heap→Prop}{d:DefRec}
  (hn:l.most=some n) (Rh:d.params.defaults=[])
  (call:∀(w:World)(s₀ s₁:Shared)(mg mb:Qqx)(fa:Addr)(o:Obj)(pm cd doc:Value)(a:Addr)(vs:List Value)(ns:List Int),
   Ground q loose [] XP w s₀ mg mb s₁.heap→YP w s₁.heap→
   s₁.heap.get? fa=some o→o.data=.func (docDef d.name d.params d.body d.scope pm cd doc)→s₁.heap.CodeRec cd d.name→mg d.name=some (.ref fa)→
   s₁.heap.get? a=some {cls:=.type "list",data:=.seq vs.toArray}→IntsAre vs ns→ns.length≤n→s₁.gens=#[]→
   codeAny (model l.prog w) callerA (.call (.ref fa) ⟨[.ref a],[]⟩) (fun r s'=>r=.ok (.ret (.bool true))∧OldK s₁.heap s'.heap∧s'.os=s₁.os∧AllBare s'.gens) s₁) :
  WalkO q loose XP YP l.row.toRowW d [] (fun f vs=>PySem.call f vs):=by
 intro w s₀ s₁ mg mb G Y fa o pm cd doc dV kV ho hd BE hD Ri hg args vals as HL hlay hrd Mx Vm
 obtain rfl:dV=.none:=Dflts.none hD Rh
 obtain rfl:kV=.none:=Dflts.noKw hD
 obtain⟨a,vs,ns,rfl,rfl,OM,hints,hlen⟩:=G9 hn HL Mx
 refine enter_call (codeAny_mono (call w s₀ s₁ mg mb fa o pm cd doc a vs ns G Y ho (fd_plain hd) BE Ri OM hints hlen hg) fun r s' hq=>?_)
 obtain⟨rfl,h2,h3,h4⟩:=hq
 exact⟨.inl ⟨.bool true,.bool true,[],rfl,fun _=>rfl,.bool true,G_ l _,fun _=>⟨List.Pairwise.nil,fun _ hm=>(nomatch hm)⟩⟩,h2,h3,h4⟩
section
variable{prog:Program}{w:World}{A:Around}{E:Qqq}{s:Shared}{K:Frag}
def ledger(h:Heap)(L d:Addr):Qqz:=(List.range h.objs.size).filterMap fun a=>if a=L∨a=d then none else(h.get? a).map fun o=>(a,o)
end
end XT
namespace L2
open PySem PySem.Spec PyProof.Rows
theorem A_:∀{vs:List Value} {ns:List Int},IntsAre vs ns→Vals (ns.map V.int) vs
 | _,_,.nil=>.nil
 | _,_,.cons n t h=>.cons ⟨t,rfl⟩ (A_ h)
def Nw(H:Hp):Prop:=∀b,H b=none∨∃o xs,H b=some (.mQ o (.lst xs))
theorem IG{P:Program}{w:World}{K:Qqy}{mg mb:Qqx}{CX:E4}{k:Nat}{fa a:Addr}{fd:FuncData}{x:Str}{sp:Sp}{s₁:Shared}{vs:List Value}{ns:List Int}
  (KX:K.In s₁.heap) (Yl:s₁.heap.Ns mainGlobals mg) (hb:s₁.heap.Ns builtinsNs mb) (hbb:∀x:Str,x≠"__name__"→mb x=bootBuiltins x) (Vn:s₁.heap.NoLimit) (hg:s₁.gens=#[])
  (ha:s₁.heap.get? a=some {cls:=.type "list",data:=.seq vs.toArray}) (hi:IntsAre vs ns) (hl:ns.length≤sizeLine) (hr:kj k callerA)
  (F:∀base:Heap,K.In base→base.Ns mainGlobals mg→ik P w K mg base CX k fa fd [x] sp) (Rj:∀(s:Shared)(u:Value),BindsTo s fd ⟨[u],[]⟩ [(x,u)])
  (Kt:∀H:Hp,Nw H→hV K H a (ns.map V.int)→sp [.ref a] H (fun v _=>v=.bl true) fun _ _ _=>False)
  (Vo:∀H e s',CX [] H s₁ (fun _ _ _=>False) e s'→False) :
  codeAny (model P w) callerA (.call (.ref fa) ⟨[.ref a],[]⟩) (fun r s'=>r=.ok (.ret (.bool true))∧OldK s₁.heap s'.heap∧s'.os=s₁.os∧AllBare s'.gens) s₁:=by
 have rv:=A_ hi
 have Vp:=hi.length
 have core:∀H:Hp,Nw H→hV K H a (ns.map V.int)→qJ P w H s₁.heap→(∀b,H b≠none→b=a)→(H a≠none→K.lookup a=none)→
   codeAny (model P w) callerA (.call (.ref fa) ⟨[.ref a],[]⟩) (fun r s'=>r=.ok (.ret (.bool true))∧OldK s₁.heap s'.heap∧s'.os=s₁.os∧AllBare s'.gens) s₁:=by
  intro H hO hS iH hA hK
  have GQ:∀{b:Addr} {o:Obj},s₁.heap.get? b=some o→H b=none→(BG s₁.heap H).get? b=some o:=fun e n=>Ic e n
  have Rb:∀{b:Addr} {o:Obj} {es:Array DictEntry} {ep:Nat},s₁.heap.get? b=some o→o.data=.dict es ep→H b=none:=fun{b o es ep} e d=>by
   cases q:H b with
   | none=>rfl
   | some u=>
    have e':b=a:=hA b (by rw[q];simp)
    subst e'
    rw[ha] at e;cases e
    have d':Data.seq vs.toArray _=Data.dict es ep:=d
    cases d'
  have Te:∀{b:Addr} {m:Qqx},s₁.heap.Ns b m→(BG s₁.heap H).Ns b m:=fun{b m} ⟨o,es,ep,e,d,r⟩=>⟨o,es,ep,GQ e (Rb e d),d,r⟩
  have Ym:K.In (BG s₁.heap H):=fun b o e=>GQ (KX b o e) (by
   cases q:H b with
   | none=>rfl
   | some u=>
    have e':b=a:=hA b (by rw[q];simp)
    subst e'
    rw[hK (by rw[q];simp)] at e;cases e)
  have hM:Mod K mg (BG s₁.heap H):=⟨Ym,Te Yl,⟨mb,Te hb,hbb⟩,let ⟨mc,h1,h2⟩:=Vn;⟨mc,Te h1,h2⟩⟩
  have e0:E5 P w K mg (BG s₁.heap H) callerA [] s₁ H:=⟨rfl,hM,fun b o e=>KC e,Nat.le_of_eq (GY _ _),trivial,fun b hb=>absurd (show b∈([]:List Addr) from hb) (by simp),iH,.of_eq hg⟩
  refine codeAny_mono ((F _ Ym (Te Yl)).run callerA [] s₁ H ⟨[.ref a],[]⟩ [.ref a] [.ref a] _ _ hr e0 (Rj s₁ (.ref a)) (.cons rfl .nil) (Kt H hO hS)) fun r s' h=>?_
  cases r with
  | error e=>exact(Vo H e s' h).elim
  | ok fl=>
   cases fl with
   | next=>exact False.elim h
   | brk=>exact False.elim h
   | cont=>exact False.elim h
   | ret u=>
    obtain⟨v,H',os,bare,un,Vq,r',q⟩:=h
    have q':v=.bl true:=q
    subst q'
    obtain rfl:u=Value.bool true:=r'
    refine⟨rfl,OldK.of_keep fun b o e=>?_,os,bare⟩
    cases q:H b with
    | none=>exact un.keep b o e q (by intro z;exact absurd (show b∈([]:List Addr) from z) (by simp)) (by simp)
    | some u=>
     rcases hO b with z|⟨ob,xs,z⟩
     ·rw[q] at z;cases z
     ·have z2:=un.tV b ob _ z
      obtain⟨e1,_⟩:=iH b _ z
      obtain⟨e2,_⟩:=Vq b _ z2
      rw[e] at e1;cases e1
      exact e2
 cases hk:K.lookup a with
 | some o=>
  have e:=KX a o hk
  rw[ha] at e
  cases e
  refine core (fun _=>none) (fun _=>.inl rfl) (.inr ⟨_,vs.toArray,_,hk,rfl,rfl,rfl,by rw[aag,Vp];exact hl,by simpa using rv⟩) (fun b u z=>by have z':(none:Option HO)=some u:=z;cases z') (fun b z=>absurd rfl z) fun z=>absurd rfl z
 | none=>
  refine core (fun b=>if b=a then some (.mQ {cls:=.type "list",data:=.seq vs.toArray} (.lst (ns.map V.int))) else none) (fun b=>?_) (.inl (.inr ⟨{cls:=.type "list",data:=.seq vs.toArray},aas rfl⟩)) (fun b u z=>?_) (fun b z=>?_) fun _=>hk
  ·by_cases hb:b=a
   ·exact .inr ⟨_,_,aas hb⟩
   ·exact .inl (aan hb)
  ·by_cases hb:b=a
   ·have z':=(aas hb).symm.trans z
    cases z'
    subst hb
    exact⟨ha,by rw[RK];exact hl,vs,_,rv,ha⟩
   ·have z':=(aan hb).symm.trans z
    cases z'
  ·by_cases hb:b=a
   ·exact hb
   ·exact absurd (aan hb) z
theorem KY{l:W.OpenLaw}{n k:Nat}{q:Program}{loose:List Str}{XP:(Qqx)→Heap→Prop}{YP:World→Heap→Prop}{d:DefRec}{K:Params→Qqy}{CX:World→E4}{sp:World→Sp}{x:Str}
  (hn:l.most=some n) (OI:n≤sizeLine) (Rh:d.params.defaults=[]) (hr:kj k callerA)
  (hY:∀(w:World)(h:Heap),YP w h→(K w.params).In h)
  (F:∀(w:World)(mg:Qqx)(fa:Addr)(h:Heap),(K w.params).In h→h.Ns mainGlobals mg→mg d.name=some (.ref fa)→
   ∃fd:FuncData,(∀(s:Shared)(u:Value),BindsTo s fd ⟨[u],[]⟩ [(x,u)])∧
    ∀base:Heap,(K w.params).In base→base.Ns mainGlobals mg→ik l.prog w (K w.params) mg base (CX w) k fa fd [x] (sp w))
  (Kt:∀(w:World)(H:Hp)(a:Addr)(ns:List Int),ns.length≤n→Nw H→hV (K w.params) H a (ns.map V.int)→sp w [.ref a] H (fun v _=>v=.bl true) fun _ _ _=>False)
  (Vo:∀(w:World)(H:Hp)(s:Shared)(e:Value)(s':Shared),CX w [] H s (fun _ _ _=>False) e s'→False) :
  W.WalkO q loose XP YP l.row.toRowW d [] (fun f vs=>PySem.call f vs):=by
 refine XT.Dx hn Rh fun w s₀ s₁ mg mb fa o pm cd doc a vs ns G Y ho hd BE Ri OM hints hlen hg=>?_
 have KX:=hY w _ Y
 obtain⟨fd,hb,hF⟩:=F w mg fa _ KX G.T.g Ri
 exact IG KX G.T.g G.T.b G.T.builtins G.T.nolimit hg OM hints (aad hlen OI) hr hF hb (fun H hO hS=>Kt w H a ns hlen hO hS) fun H e s'=>Vo w H s₁ e s'
noncomputable def inClass(s:Stmt)(j:Nat):Stmt:=match s with
 | .ClassDef _ _ _ body _ _ _ _ _ _ _=>body.getD j (.Pass ⟨0,0,0,0⟩)
 | _=>.Pass ⟨0,0,0,0⟩
noncomputable def oB(s:Stmt):Arguments:=match s with
 | .FunctionDef _ a _ _ _ _ _ _ _ _=>a
 | _=>{posonlyargs:=[],args:=[],vararg:=none,kwonlyargs:=[],kw_defaults:=[],kwarg:=none,defaults:=[]}
noncomputable def k8(s:Stmt):List Stmt:=match s with
 | .FunctionDef _ _ b _ _ _ _ _ _ _=>b
 | _=>[]
noncomputable def fZ(s:Stmt):Scope:=match s with
 | .FunctionDef _ _ _ _ _ _ sc _ _ _=>sc
 | _=>{kind:=.function,names:=[],isGenerator:=false,isCoroutine:=false}
abbrev mT:E4:=fun _ _ _ _ _ _=>False
abbrev E0:XK:=fun _ _ _=>False
theorem oC{X:Cx}:Passes mT X E0:=fun _ _ _ _ _ _ _ h=>h.elim
structure xl(K:Qqy)(x qual:Str)(st:Stmt)(f:Addr)(fd:FuncData):Prop where
 ex:∃(oc:Value)(od:Option Addr)(kV doc pm:Value)(an:Option Addr)(jx ct:Value)(H_:Array (Option Value)),
  fd=W.fnOf x qual (oB st) (k8 st) (fZ st) .none kV doc pm an jx ct∧K.lookup f=some ⟨oc,od,.func fd,H_⟩∧W.codeIn K jx qual=true
 kp:W.keepIn K (.ref f)=true
section
variable{P:Program}{w:World}{K:Qqy}{mg:Qqx}{base:Heap}
theorem xl.ok{x qual:Str}{st:Stmt}{f:Addr}{fd:FuncData}{N ps:List Str}{k:Nat}{sp:Sp}(F:xl K x qual st f fd)(S:gv N ps (fZ st))(len:∀vs H Q E,sp vs H Q E→vs.length=ps.length)
  (vO:∀(jx:Value)(A:Around)(outer:List Env)(s:Shared)(H:Hp)(vs:List V)(Q:VK)(E:XK),kj k (A.deeper (envOfC qual (fZ st) s.heap.objs.size f jx))→sp vs H Q E→
   ∃t,C5 (v_ mT P w K mg base N qual (fZ st) f jx A outer s H E).Qa (k8 st) t∧t {nx:=fun _ H'=>Q .jn H',rt:=Q} (start N vs) H):ik P w K mg base mT (k+1) f fd ps sp:=by
 obtain⟨oc,od,kV,doc,pm,an,jx,ct,H_,rfl,lk,BE⟩:=F.ex
 refine Mg lk BE S len fun A outer s H vs Q E hr Kt=>?_
 obtain⟨t,h,q⟩:=vO jx A outer s H vs Q E hr Kt
 exact⟨t,h.Qa,q⟩
theorem xl.binds{x qual:Str}{st:Stmt}{f:Addr}{fd:FuncData}{ps:List Str}(F:xl K x qual st f fd)
  (h:∀(kV doc pm:Value)(an:Option Addr)(jx ct:Value)(us:List Value),us.length=ps.length→bindArgs (W.fnOf x qual (oB st) (k8 st) (fZ st) .none kV doc pm an jx ct) ⟨us,[]⟩=pure (ps.zip us)):Binds K fd ps []:=by
 obtain⟨oc,od,kV,doc,pm,an,jx,ct,H_,rfl,lk,BE⟩:=F.ex
 exact .all (h kV doc pm an jx ct)
theorem IH{x qual:Str}{st:Stmt}{f:Addr}{oc:Value}{od an:Option Addr}{H_:Array (Option Value)}{kV doc pm jx ct:Value}(l:K.lookup f=some ⟨oc,od,.func (W.fnOf x qual (oB st) (k8 st) (fZ st) .none kV doc pm an jx ct),H_⟩)
 (c:W.codeIn K jx qual=true) (k:W.keepIn K (.ref f)=true):xl K x qual st f (W.fnOf x qual (oB st) (k8 st) (fZ st) .none kV doc pm an jx ct):=⟨⟨oc,od,kV,doc,pm,an,jx,ct,H_,rfl,l,c⟩,k⟩
end
theorem iI{A:Around}{k:Nat}(hr:kj k A):A.units+1<cLine:=abn (Nat.add_le_add_left (by decide:1≤64) _) hr.units
section
variable{X:Cx}
theorem pv(i:Nat){x:Str}{pos:Pos}(hN:X.N[i]?=some x:=by rfl)(hv:Ub X.env.scope x:=by first|exact Or.inl rfl|exact Or.inr (Or.inl rfl)|exact Or.inr (Or.inr rfl))(hd:(x ==("__debug__":Str))=false:=by decide)
 (BE:(x ==("__classdict__":Str))=false:=by decide):PE X (.Name x pos) (P9 i):=MZ hN hv hd BE
end
theorem kA{A B:Prop}(h:B):if false=true then A else B:=by
 rw[aan aai]
 exact h
theorem mG{A B:Prop}(h:A):if true=true then A else B:=by
 rw[aas rfl]
 exact h
theorem kI{c A B:Prop}[Decidable c](h1:c→A)(h2:¬c→B):if c then A else B:=by
 by_cases h:c
 ·rw[aas h]
  exact h1 h
 ·rw[aan h]
  exact h2 h
def gg(H H':Hp):Prop:=∀b o,H b=some o→H' b=some o
theorem gg.refl(H:Hp):gg H H:=fun _ _ h=>h
theorem gg.trans{H H1 H2:Hp}(a:gg H H1)(b:gg H1 H2):gg H H2:=fun c o h=>b c o (a c o h)
theorem gg.free{H H':Hp}(e:gg H H'){l:Addr}(h:H' l=Option.none):H l=Option.none:=by
 cases q:H l with
 | none=>rfl
 | some o=>
  rw[e l o q] at h
  cases h
section
variable{κ:Type}[DecidableEq κ]
theorem wb{p:κ×V}{r:List (κ×V)}{k:κ}(e:p.1=k):jX (p::r) k=jX r k:=by
 unfold jX
 rw[List.filter_cons,aan (by simp[e])]
theorem wc{p:κ×V}{r:List (κ×V)}{k:κ}(e:¬p.1=k):jX (p::r) k=p::jX r k:=by
 unfold jX
 rw[List.filter_cons,aas (by simp[e])]
end
section
variable{prog:Program}{w:World}{A:Around}{R:Result→Shared→Prop}{s:Shared}
abbrev KZ:Qqq:=fun _ _=>False
theorem BP{elt target iter:Expr}{ifs:List Expr}{scope:Scope}{pos:Pos}{it acc:Value}{env:Env}(I:Nat→Shared→Prop)
  (turn:∀n s,I n s→wpAny (model prog w) A (pyNext it) (fun r s1=>match r with
   | none=>R (.ok .next) s1
   | some v=>wpAny (model prog w) A (letOwnedTupleGo target it v) (fun _ Yn=>wpAny (model prog w) A (assign target env v) (fun _ s2=>
    wpAny (model prog w) A (forIn ifs true fun c r=>if r=true then do let ok ←isTrue c env (eval c env);pure (ForInStep.yield ok) else pure (ForInStep.yield r)) (fun ok s3=>
     if ok=true then wpAny (model prog w) A (eval elt env) (fun x s4=>wpAny (model prog w) A (call (.builtin "list.append") [acc,x]) (fun _ s5=>∃m,m<n∧I m s5) KZ s4) KZ s3
     else ∃m,m<n∧I m s3) KZ s2) KZ Yn) KZ s1) KZ s)
  (n:Nat) (h:I n s):codeAny (model prog w) A (.compLoop (.ListComp elt [⟨target,iter,ifs,0⟩] scope pos) 0 it acc env) R s:=by
 refine codeAny_loop rfl I (fun n s hI=>?_) n h
 show wpAny _ A ((compTurn (.ListComp elt [⟨target,iter,ifs,0⟩] scope pos) 0 it acc env).onRaise (fun x=>do noteFrame x env;theTreesLotGoes x)) _ _ s
 refine wpAny_noted ?_
 rw[compTurn_list]
 refine UP (wpAny_standAt (UP (abp (turn n s hI) (fun r s1 h1=>?_) fun _ _ h'=>h'.elim)))
 cases r with
 | none=>exact aab h1
 | some v=>
  refine UP (abp h1 (fun _ Yn LR=>?_) fun _ _ h'=>h'.elim)
  refine UP (abp LR (fun _ s2 h2=>UP (abp h2 (fun ok s3 h3=>?_) fun _ _ h'=>h'.elim)) fun _ _ h'=>h'.elim)
  cases ok with
  | false=>exact aab ⟨rfl,h3⟩
  | true=>
   exact UP (UP (abp h3 (fun x s4 h4=>UP (abp h4 (fun _ s5 h5=>aab (aab ⟨rfl,h5⟩)) fun _ _ h'=>h'.elim)) fun _ _ h'=>h'.elim))
end
noncomputable def jy(cells:List (Str×Addr)):List (Str×NameKind)→List (Str×Addr)→List (Str×Addr)
 | [],cs=>cs
 | (n,k)::r,cs=>jy cells r (if k ==.free then(n,(cells.lookup n).getD 0)::cs else cs)
theorem Ba{cells:List (Str×Addr)}:∀{names:List (Str×NameKind)} {cs:List (Str×Addr)} {x:Str} {c:Addr},(∀y∈names,y.2=.free→∃c,cells.lookup y.1=some c)→
  (jy cells names cs).lookup x=some c→cs.lookup x=some c∨cells.lookup x=some c
 | [],_,_,_,_,h=>.inl h
 | (n,k)::r,cs,x,c,hf,h=>by
  rcases Ba (fun y hy=>hf y (aal _ hy)) (show(jy cells r (if k ==.free then(n,(cells.lookup n).getD 0)::cs else cs)).lookup x=some c from h) with q|q
  ·by_cases hk:(k ==NameKind.free)=true
   ·rw[aas hk] at q
    by_cases hx:(x ==n)=true
    ·rw[ab1,hx] at q
     obtain⟨c',e⟩:=hf (n,k) aav (eq_of_beq hk)
     have e:cells.lookup n=some c':=e
     rw[e] at q
     have q:some c'=some c:=q
     rw[eq_of_beq hx,e,q]
     exact .inr rfl
    ·rw[ab1,abc.mpr hx] at q
     exact .inl q
   ·rw[aan hk] at q
    exact .inl q
  ·exact .inr q
theorem yY{cells:List (Str×Addr)}:∀{names:List (Str×NameKind)} {cs:List (Str×Addr)} {x:Str},(∃c,cs.lookup x=some c)→∃c,(jy cells names cs).lookup x=some c
 | [],_,_,h=>h
 | (n,k)::r,cs,x,h=>by
  refine yY (names:=r) ?_
  by_cases hk:(k ==NameKind.free)=true
  ·rw[aas hk,ab1]
   cases x ==n with
   | true=>exact⟨_,rfl⟩
   | false=>exact h
  ·rw[aan hk];exact h
theorem wd{cells:List (Str×Addr)}:∀{names:List (Str×NameKind)} {cs:List (Str×Addr)} {x:Str},(x,NameKind.free)∈names→∃c,(jy cells names cs).lookup x=some c
 | [],_,_,h=>nomatch h
 | (n,k)::r,cs,x,h=>by
  rcases XW.mp h with e|h2
  ·cases e
   refine yY (names:=r) ⟨(cells.lookup n).getD 0,?_⟩
   rw[aas (by rfl),ab1,beq_self_eq_true]
  ·exact wd (names:=r) h2
theorem tq{scope:Scope}{env:Env}(hf:∀y∈scope.names,y.2=.free→∃c,env.cells.lookup y.1=some c):closureFor scope env=pure (jy env.cells scope.names []):=by
 have key:∀(names:List (Str×NameKind))(cs:List (Str×Addr)),(∀y∈names,y.2=.free→∃c,env.cells.lookup y.1=some c)→
   (forIn names cs fun(x:Str×NameKind) (r:List (Str×Addr))=>(match x with
    | (name,kind)=>if(kind ==NameKind.free)=true then(do let a ←cellOf env name;pure (ForInStep.yield ((name,a)::r))) else pure (ForInStep.yield r):Sem (ForInStep (List (Str×Addr)))))=(pure (jy env.cells names cs):Sem (List (Str×Addr))):=by
  intro names
  induction names with
  | nil=>intro cs _;rfl
  | cons y r ih=>
   intro cs h
   obtain⟨n,k⟩:=y
   rw[List.forIn_cons]
   by_cases hk:(k ==NameKind.free)=true
   ·obtain⟨c,e⟩:=h (n,k) aav (eq_of_beq hk)
    have e:env.cells.lookup n=some c:=e
    have ec:cellOf env n=pure c:=by unfold cellOf;rw[e]
    simp only [hk,if_true,ec,pure_bind]
    rw[ih _ fun y hy=>h y (aal _ hy)]
    simp only [jy,hk,if_true,e,Option.getD_some]
   ·simp only [hk,abZ,pure_bind,aa3]
    rw[ih _ fun y hy=>h y (aal _ hy)]
    simp only [jy,hk,abZ,aa3]
 have q:=key scope.names [] hf
 simp only [closureFor]
 first
  | (rw[q];rfl)
  | (simp only [q,pure_bind])
  | exact(aa5 (fun t=>t >>= pure) q).trans (pure_bind _ _)
theorem qK{f:Str→NameKind→NameKind}:∀{names:List (Str×NameKind)} {x:Str},(names.map fun y=>(y.1,f y.1 y.2)).lookup x=(names.lookup x).map (f x)
 | [],_=>rfl
 | (n,k)::r,x=>by
  show List.lookup x ((n,f n k)::_)=_
  rw[ab1,ab1]
  cases h:x ==n with
  | true=>rw[eq_of_beq h];rfl
  | false=>exact qK (names:=r)
theorem lJ{scope:Scope}{env:Env}{x:Str}:(relabel scope env).names.lookup x=(scope.names.lookup x).map fun k=>if(k ==.free&&env.scope.kind ==.function&&env.kindOf x ==some .cell)=true then .cell else k:=by
 have e:(relabel scope env).names=scope.names.map fun y=>(y.1,(fun(n:Str) (k:NameKind)=>if(k ==.free&&env.scope.kind ==.function&&env.kindOf n ==some .cell)=true then NameKind.cell else k) y.1 y.2):=by
  show(scope.names.map _)=_
  refine ab0 fun y _=>?_
  obtain⟨n,k⟩:=y
  show(if(k ==.free&&env.scope.kind ==.function&&env.kindOf n ==some .cell)=true then(n,NameKind.cell) else(n,k))=(n,if(k ==.free&&env.scope.kind ==.function&&env.kindOf n ==some .cell)=true then NameKind.cell else k)
  split<;>rfl
 rw[e]
 exact qK (f:=fun(n:Str) (k:NameKind)=>if(k ==.free&&env.scope.kind ==.function&&env.kindOf n ==some .cell)=true then NameKind.cell else k)
noncomputable def blank:List Nat→St→St
 | [],σ=>σ
 | i::r,σ=>blank r (σ.set i none)
theorem Bb:∀{is:List Nat} {σ:St},(blank is σ).length=σ.length
 | [],_=>rfl
 | i::r,σ=>by
  show(blank r (σ.set i none)).length=_
  rw[Bb,ack]
theorem BQ{σ:St}{i j:Nat}{v:V}(h:(σ.set i none)[j]?=some (some v)):σ[j]?=some (some v)∧j≠i:=by
 by_cases e:j=i
 ·subst e
  by_cases hl:j<σ.length
  ·rw[abg hl] at h;cases h
  ·rw[aby.mpr (by rw[ack];omega)] at h;cases h
 ·rw[abo (abQ e)] at h
  exact⟨h,e⟩
theorem Bc:∀{is:List Nat} {σ:St} {j:Nat} {v:V},(blank is σ)[j]?=some (some v)→σ[j]?=some (some v)∧j∉is
 | [],_,_,_,h=>⟨h,by simp⟩
 | i::r,σ,j,v,h=>by
  obtain⟨h1,h2⟩:=Bc (is:=r) (σ:=σ.set i none) h
  obtain⟨h3,h4⟩:=BQ h1
  exact⟨h3,fun m=>(XW.mp m).elim h4 h2⟩
noncomputable def Ha(N:List Str)(out:List (Str×NameKind))(is:List Nat)(names:List (Str×NameKind)):Bool:=
 (names.all fun y=>y.2 != .cell&&(y.2 != .free||out.lookup y.1 ==some .cell||out.lookup y.1 ==some .free)&&(y.2 != .local||names.lookup y.1 ==some .local))&&
 (N.zipIdx.all fun p=>names.lookup p.1 != some .local||is.contains p.2)
structure BR(N:List Str)(out:List (Str×NameKind))(is:List Nat)(names:List (Str×NameKind)):Prop where
 Fh:∀y∈names,y.2≠.cell
 free:∀y∈names,y.2=.free→out.lookup y.1=some .cell∨out.lookup y.1=some .free
 loc:∀y∈names,y.2=.local→names.lookup y.1=some .local
 own:∀(i:Nat)(x:Str),N[i]?=some x→names.lookup x=some .local→i∈is
theorem BR.of{N:List Str}{out:List (Str×NameKind)}{is:List Nat}{names:List (Str×NameKind)}(h:Ha N out is names=true):BR N out is names:=by
 unfold Ha at h
 rw[aaZ] at h
 obtain⟨h1,h2⟩:=h
 have a:=abO.mp h1
 have b:=abO.mp h2
 refine⟨fun y hy e=>?_,fun y hy e=>?_,fun y hy e=>?_,fun i x hi e=>?_⟩
 ·have q:=a y hy
  rw[e] at q
  simp at q
 ·have q:=a y hy
  simp only [e,aaZ,acm,bne_self_eq_false,aa3,false_or,ab3] at q
  rcases q.1.2 with z|z
  ·exact .inl z
  ·exact .inr z
 ·have q:=a y hy
  simp only [e,aaZ,acm,bne_self_eq_false,aa3,false_or,ab3] at q
  exact q.2
 ·have hm:(x,i)∈N.zipIdx:=by
   rw[aaP]
   exact⟨i,by rw[List.getElem?_zipIdx,hi];simp⟩
  have q:=b (x,i) hm
  simp only [e,acm,bne_self_eq_false,aa3,false_or] at q
  exact List.contains_iff_mem.mp q
noncomputable def Cx.block(X:Cx)(scope:Scope)(cl:List (Str×Addr))(C:Addr)(s:Shared)(H:Hp)(ex:List Addr):Cx:=
 {X with env:=compEnvC scope cl C X.env,s₀:=s,H₀:=H,outer:=X.stack,ex:=ex,fn:=fun _=>false,pn:=[],xe:=KZ}
section
variable{X:Cx}{c_:Qqz}{σ:St}{H:Hp}{s:Shared}{scope:Scope}{is:List Nat}{ex:List Addr}{C:Addr}
theorem yZ(I:Inv X c_ σ H s)(hs:BR X.N X.env.scope.names is scope.names):∀y∈scope.names,y.2=.free→∃c,X.env.cells.lookup y.1=some c:=fun y hy e=>I.ok.has y.1 (hs.free y hy e)
theorem mH(I:Inv X c_ σ H s)(hs:BR X.N X.env.scope.names is scope.names){x:Str}{c:Addr}(h:(jy X.env.cells scope.names []).lookup x=some c):X.env.cells.lookup x=some c:=
 (Ba (yZ I hs) h).resolve_left fun z=>nomatch z
theorem II(I:Inv X c_ σ H s)(hs:BR X.N X.env.scope.names is scope.names)(hk:scope.kind=.function)(hC:s.heap.objs.size≤C)(hf:∀b∈ex,tX X c_ H b)(ho:∀b∈ex,∃o,s.heap.get? b=some o) :
  (X.block scope (jy X.env.cells scope.names []) C s H ex).Ok where
 mod:=I.ok.mod
 kind:=hk
 glob:=I.ok.glob
 blt:=I.ok.blt
 above:=hC
 inj:=fun x y c h1 h2=>I.ok.inj x y c (mH I hs h1) (mH I hs h2)
 has:=fun x hx=>by
  have hx:(relabel scope X.env).names.lookup x=some .cell∨(relabel scope X.env).names.lookup x=some .free:=hx
  rw[lJ] at hx
  cases e:scope.names.lookup x with
  | none=>
   rw[e] at hx
   rcases hx with z|z<;>cases z
  | some k=>
   have hm:(x,k)∈scope.names:=abw e
   have hk:k=.free:=by
    rw[e] at hx
    cases k with
    | free=>rfl
    | cell=>exact absurd rfl (hs.Fh _ hm)
    | _=>rcases hx with z|z<;>simp at z
   subst hk
   exact wd hm
 L_:=fun _ _ h=>Bool.noConfusion h
 hd:=I.ok.hd
 frames:=I.ok.frames
 MX:=.inl rfl
 P7:=fun b hb=>by
  obtain⟨o,e⟩:=ho b hb
  exact⟨aaW (aaE (aax e) hC),fun x c h=>(hf b hb).2.2.2.2.1 x c (mH I hs h)⟩
 bs:=I.bs
 Ie:=aad I.ok.Ie I.sz
 qZ:=fun b o e hb=>by
  rcases(hf b hb).2.2.2.1 with z|z
  ·exact I.ok.qZ b o e z
  ·exact absurd (aaE (aax (I.ok.bs b o e).1) z) (abm _)
 ET:=fun b hb hm=>by
  rcases XW.mp (I.vT b hm) with z|z
  ·exact(hf b hb).2.1 z
  ·exact(hf b hb).2.2.1 z
 sW:=I.stack
 Kq:=I.yC
theorem Hb{h':Heap}{t':Nat}{pl:Qqz}(I:Inv X c_ σ H s)(hs:BR X.N X.env.scope.names is scope.names)(hk:scope.kind=.function)(hC:s.heap.objs.size≤C)(hf:∀b∈ex,tX X c_ H b)(ho:∀b∈ex,∃o,s.heap.get? b=some o)
  (old:∀b o,s.heap.get? b=some o→h'.get? b=some o) {m:Qqx} (hn:h'.Ns C m)
  (hp:∀p∈pl,h'.get? p.1=some p.2∧s.heap.objs.size≤p.1∧p.1≠C∧∀v,p.2.data≠.cell v) :
  Inv (X.block scope (jy X.env.cells scope.names []) C s H ex) pl (blank is σ) H {s with heap:=h',toks:=t'} where
 ok:=II I hs hk hC hf ho
 os:=rfl
 bare:=I.bare
 base:=Un.kept old
 loc:=⟨m,hn,fun i x v h1 h2 h3=>by
  have h3:(relabel scope X.env).names.lookup x=some .local∨(relabel scope X.env).names.lookup x=some .cell∨(relabel scope X.env).names.lookup x=some .free:=h3
  obtain⟨h2,hi⟩:=Bc h2
  have h1:X.N[i]?=some x:=h1
  cases e:scope.names.lookup x with
  | none=>
   rw[lJ,e] at h3
   rcases h3 with z|z|z<;>cases z
  | some k=>
   have hm:(x,k)∈scope.names:=abw e
   have hk:k=.free:=by
    rw[lJ,e] at h3
    cases k with
    | free=>rfl
    | cell=>exact absurd rfl (hs.Fh _ hm)
    | «local»=>exact absurd (hs.own i x h1 e) hi
    | _=>rcases h3 with z|z|z<;>simp at z
   subst hk
   have hv:X.env.scope.names.lookup x=some .cell∨X.env.scope.names.lookup x=some .free:=hs.free _ hm rfl
   obtain⟨m0,_,hl⟩:=I.loc
   obtain⟨u,r,q⟩:=hl i x v h1 h2 (.inr hv)
   refine⟨u,r,.inr ⟨?_,?_⟩⟩
   ·show(relabel scope X.env).names.lookup x=some .cell∨(relabel scope X.env).names.lookup x=some .free
    rw[lJ,e]
    show some (if _ then NameKind.cell else NameKind.free)=_∨some (if _ then NameKind.cell else NameKind.free)=_
    split
    ·exact .inl rfl
    ·exact .inr rfl
   ·rcases q with⟨z,_⟩|⟨_,c,ec,cc⟩
    ·have z:X.env.scope.names.lookup x=some .local:=z
     rcases hv with hv|hv<;>rw[hv] at z<;>cases z
    ·obtain⟨c',e'⟩:=wd (cells:=X.env.cells) (cs:=[]) hm
     have e2:=mH I hs e'
     rw[ec] at e2
     cases e2
     obtain⟨o,ho,hd⟩:=cc
     exact⟨c,e',o,old _ _ ho,hd⟩⟩
 cell:=fun x c h=>by
  obtain⟨v,o,ho,hd⟩:=I.cell x c (mH I hs h)
  exact⟨v,o,old _ _ ho,hd⟩
 free:=I.iH.fresh hC
 mB:=fun x c h=>I.mB x c (mH I hs h)
 pin:=fun p hp'=>by
  obtain⟨h1,h2,h3,h4⟩:=hp p (by simpa[Cx.block] using hp')
  refine⟨h1,I.iH.fresh h2,h3,fun hm=>?_,h4⟩
  rcases XW.mp (I.vT p.1 hm) with z|z
  ·exact absurd (aaE I.lt (by rw[←z];exact h2)) (abm _)
  ·exact I.P8 h2 z
 iH:=I.iH.kept old
 len:=by rw[Bb];exact I.len
end
theorem j6{X:Cx}{scope:Scope}{cl:List (Str×Addr)}{C:Addr}{s:Shared}{H:Hp}{ex:List Addr}:(X.block scope cl C s H ex).K=X.K:=rfl
theorem PE.eqv{X:Cx}{e:Expr}{t t':TE}(h:PE X e t')(q:t'=t):PE X e t:=q▸h
def Nx(X:Cx)(ifs:List Expr)(t:TT):Prop:=
 ∀(c_:Qqz)(s:Shared)(σ:St)(H:Hp)(Q:Bool→Hp→Prop),Inv X c_ σ H s→t σ H Q→
  wpAny (model X.prog X.w) X.A (forIn ifs true fun c r=>if r=true then do let ok ←isTrue c X.env (eval c X.env);pure (ForInStep.yield ok) else pure (ForInStep.yield r)) (TP X c_ σ Q) X.xe s
def UM:TT:=fun _ H Q=>Q true H
theorem mU{X:Cx}:Nx X [] UM:=fun _ _ _ H _ I h=>wpAny_tests_nil ⟨H,I,h⟩
theorem l_{X:Cx}{c:Expr}{t:TT}(h:PT X c t):Nx X [c] t:=fun c_ s σ H Q I hw=>wpAny_tests_one (h c_ s σ H Q I hw)
def Fi(g:TG)(tt:TT)(te:TE)(J:It)(Q:List V→Hp→Prop)(σ:St)(H:Hp):Prop:=
 ∃W:Nat→Nat→List V→St→Hp→Prop,(∃m,W 0 m [] σ H)∧∀i m ys σ H,W i m ys σ H→
  (J.stop i H∧ys.length≤sizeLine∧Q ys H)∨
  (J.go i H∧ys.length≤sizeLine∧∃N:List V→St→Hp→Prop,(∀ON σ' H',N ON σ' H'→∃m',m'<m∧W (i+1) m' ON σ' H')∧
   ∀x H',J.Ij i H x H'→g x σ H' fun σ2 H2=>tt σ2 H2 fun b H3=>if b=true then te σ2 H3 fun v H4=>N (ys++[v]) σ2 H4 else N ys σ2 H3)
def S4(is:List Nat)(wi:TI)(g:TG)(tt:TT)(te:TE):TE:=fun σ H Q=>wi σ H fun J H1=>Fi g tt te J (fun ys H2=>∀p,H2 p=none→Q (.ref p) (upd H2 p (.lst ys))) (blank is σ) H1
section
variable{P:Program}{w:World}
theorem qJ.Qt{H:Hp}{h:Heap}{a:Addr}{o:HO}(x:qJ P w H h)(hn:H a=none)(new:i5 P w (upd H a o) h a o):qJ P w (upd H a o) h:=fun b u q=>by
 by_cases hb:b=a
 ·subst hb;rw[b_] at q;cases q;exact new
 ·rw[d_ hb] at q
  exact(x b u q).ye (fun _ _ _ r=>r) (fun c r=>by rw[d_ (gb r hn)];exact r) fun c xs r=>by rw[d_ (gb r hn)];exact r
end
noncomputable abbrev BS(ys:List Value)(n:Nat):Obj:={cls:=.type "list",data:=.seq ys.toArray n}
section
variable{X:Cx}{c_:Qqz}{σ:St}{H:Hp}{s:Shared}{scope:Scope}{is:List Nat}
theorem Be{E:Qqq}{elt tg iter:Expr}{ifs:List Expr}{pos:Pos}{it:Addr}{fp:List Addr}{tn:Nat→Heap→Prop}{J:It}{g:TG}{tt:TT}{te:TE}{Fin:List V→Hp→Prop}{RR:Value→Addr→Result→Shared→Prop}
  (I:Inv X c_ σ H s) (hc:X.calm=true) (hs:BR X.N X.env.scope.names is scope.names) (hk:scope.kind=.function)
  (hg:∀C s H ex,PG (X.block scope (jy X.env.cells scope.names []) C s H ex) tg g) (ht:∀C s H ex,Nx (X.block scope (jy X.env.cells scope.names []) C s H ex) ifs tt)
  (he:∀C s H ex,PE (X.block scope (jy X.env.cells scope.names []) C s H ex) elt te)
  (T:Turn X.prog X.w X.K tg J fp it tn) (st:tn 0 s.heap) (hf:∀b∈fp,tX X c_ H b) (h:Fi g tt te J Fin (blank is σ) H)
  (hRR:∀(D C:Addr)(ys:List V)(hX:List Value)(n:Nat)(H':Hp)(s':Shared)(m:Qqx),s.heap.objs.size≤D→s.heap.objs.size≤C→D≠C→s'.heap.Ns C m→s'.heap.get? D=some (BS hX n)→Vals ys hX→ys.length≤sizeLine→
   H' D=none→H' C=none→s'.os=s.os→AllBare s'.gens→Un (qY X.stack) fp H H' s.heap s'.heap→qJ X.prog X.w H' s'.heap→Fin ys H'→RR (.ref D) C (.ok .next) s') :
  wpAny (model X.prog X.w) X.A (newList []) (fun acc s3=>wpAny (model X.prog X.w) X.A (newFunctionEnv scope X.env.globals (jy X.env.cells scope.names []) [] X.env.qual none .none (some X.env)) (fun Rl s4=>
   codeAny (model X.prog X.w) X.A (.compStart (.ListComp elt [⟨tg,iter,ifs,0⟩] scope pos) 0 (.ref it) acc {Rl with scope:=relabel scope X.env}) (RR acc Rl.locals) s4) E s3) E s:=by
 refine abx (wpAny_newFunctionEnv hs.Fh (by intro y hy;simp at hy) (fun h1 OO LS=>?_) hk)
 dsimp only at OO LS ⊢
 generalize Vr:s.heap.push {cls:=.type "list",dict:=none,data:=.seq ([]:List Value).toArray}=H2 at OO LS ⊢
 have hC:H2.objs.size=s.heap.objs.size+1:=by rw[←Vr,Heap.size_push]
 have LU:s.heap.objs.size≠H2.objs.size:=by rw[hC];exact aaW (ach _)
 have Rm:s.heap.objs.size≤H2.objs.size:=by rw[hC];exact Nat.le_succ _
 have below:∀b,b<s.heap.objs.size→b≠H2.objs.size∧b≠s.heap.objs.size:=fun b hb=>⟨by rw[hC];exact aaW (Nat.lt_succ_of_lt hb),aaW hb⟩
 have old:∀b o,s.heap.get? b=some o→h1.get? b=some o:=fun b o e=>LS.extBut b o (below b (aax e)).1 (aac _ (Vr▸aac _ e))
 have vP:h1.get? s.heap.objs.size=some (BS [] 0):=LS.extBut _ _ LU (aac _ (Vr▸aaz _ rfl))
 have Rn:∀b∈fp,∃o,s.heap.get? b=some o:=fun b hb=>let ⟨o,e,_⟩:=T.obj 0 _ st b hb;⟨o,e⟩
 have Yo:∀b∈fp,b≠s.heap.objs.size:=fun b hb=>let ⟨o,e⟩:=Rn b hb;(below b (aax e)).2
 have hfC:∀b∈fp,b≠H2.objs.size:=fun b hb=>let ⟨o,e⟩:=Rn b hb;(below b (aax e)).1
 generalize hD:s.heap.objs.size=D at *
 generalize hCC:H2.objs.size=C at *
 have Ro:∀x c,(jy X.env.cells scope.names []).lookup x=some c→c≠D:=fun x c e z=>by
  obtain⟨v,q⟩:=I.cell x c (mH I hs e)
  exact absurd q.lt (by rw[z,hD];exact abm _)
 let XB:=X.block scope (jy X.env.cells scope.names []) C s H fp
 have I1:Inv XB [(D,BS [] 0)] (blank is σ) H {s with heap:=h1,toks:=s.toks+([]:List (Str×Value)).length}:=
  Hb I hs hk (by rw[hD];exact Rm) hf Rn old OO fun p hp=>by
   rw[US.mp hp]
   exact⟨vP,Nat.le_of_eq hD,LU,fun v z=>nomatch z⟩
 have Vs:∀{pl:Qqz} {H':Hp},(∀p∈pl,p.1=D)→(∀b∈fp,H' b=none)→∀b∈fp,tX XB pl H' b:=fun{pl H'} o3 hn b hb=>
  ⟨hn b hb,hfC b hb,fun hm=>by
   rcases XW.mp (I.vT b hm) with z|z
   ·exact(hf b hb).2.1 z
   ·exact(hf b hb).2.2.1 z,.inl hb,fun x c e=>(hf b hb).2.2.2.2.1 x c (mH I hs e),fun p hp=>by
   have hp:p∈pl:=by simpa[XB,Cx.block] using hp
   rw[o3 p hp]
   exact abQ (Yo b hb)⟩
 obtain⟨W,⟨m0,w0⟩,turn⟩:=h
 have HM:tn 0 h1:=T.keep _ _ _ st fun b _ o e=>old b o e
 have loop:codeAny (model X.prog X.w) X.A (.compLoop (.ListComp elt [⟨tg,iter,ifs,0⟩] scope pos) 0 (.ref it) (.ref D) (compEnvC scope (jy X.env.cells scope.names []) C X.env)) (RR (.ref D) C) {s with heap:=h1,toks:=s.toks+([]:List (Str×Value)).length}:=by
  refine BP (fun k s'=>∃i ys hX n σ' H',Inv XB [(D,BS hX n)] σ' H' s'∧Vals ys hX∧tn i s'.heap∧(∀b∈fp,H' b=none)∧W i k ys σ' H') ?_ m0 ⟨0,[],[],0,_,_,I1,.nil,HM,fun b hb=>(hf b hb).1,w0⟩
  rintro k s3 ⟨i,ys,hX,n,σ3,H3,I3,vs,vV,Q_,w3⟩
  have o3:∀p∈[(D,BS hX n)],p.1=D:=fun p hp=>by rw[US.mp hp]
  rcases turn i k ys σ3 H3 w3 with⟨stop,hz,qn⟩|⟨go,hz,N,hN,step⟩
  ·refine i3 (T.done XB rfl rfl rfl hc i _ s3 σ3 H3 KZ I3 (Vs o3 Q_) vV stop) fun r s4 ⟨hr,I4⟩=>?_
   subst hr
   obtain⟨m',PD,_⟩:=I4.loc
   have pD:=I4.pin (D,BS hX n) (by simp[XB,Cx.block])
   exact hRR D C ys hX n H3 s4 m' (U0 _) Rm LU PD pD.1 vs hz pD.2.1 I4.free I4.os I4.bare I4.base I4.iH qn
  ·refine i3 (T.item XB rfl rfl rfl hc i _ s3 σ3 H3 KZ I3 (Vs o3 Q_) vV go) fun r s4 ⟨u,hr,h4⟩=>?_
   subst hr
   refine i3 h4 fun _ s5 ⟨x,H5,I5,r5,y5,OG,Vf⟩=>?_
   have Vg:=I5.pinned (Vs o3 Vf) (T.obj _ _ OG)
   refine i3 (hg C s H fp _ s5 σ3 H5 x u _ Vg r5 (step x H5 y5)) fun _ s6 ⟨σ6,H6,I6,q6⟩=>?_
   have vQ:∀{σ7:St} {H7:Hp} {s7:Shared},Inv XB ([(D,BS hX n)]++yR fp s5.heap) σ7 H7 s7→tn (i+1) s7.heap∧∀b∈fp,H7 b=none:=fun{σ7 H7 s7} I7=>
    ⟨T.keep _ _ _ OG fun b hb o e=>(I7.pin (b,o) (aaL _ (aaL _ (p0 hb e)))).1,fun b hb=>by
     obtain⟨o,e,d⟩:=T.obj _ _ OG b hb
     exact(I7.pin (b,o) (aaL _ (aaL _ (p0 hb e)))).2.1⟩
   refine i3 (ht C s H fp _ s6 σ6 H6 _ I6 q6) fun ok s7 ⟨H7,I7,q7⟩=>?_
   cases ok with
   | false=>
    rw[aan aai] at q7 ⊢
    obtain⟨m',hm,w7⟩:=hN _ _ _ q7
    exact⟨m',hm,i+1,ys,hX,n,σ6,H7,I7.uJ,vs,(vQ I7).1,(vQ I7).2,w7⟩
   | true=>
    rw[aas rfl] at q7 ⊢
    refine i3 (he C s H fp _ s7 σ6 H7 _ I7 q7) fun y s8 ⟨v,H8,I8,r8,n8⟩=>?_
    obtain⟨m',hm,w8⟩:=hN _ _ _ n8
    obtain⟨st8,fr8⟩:=vQ I8
    have pD:=I8.pin (D,BS hX n) (by simp)
    have hl:=vs.length
    refine append_at (hsz:=by show hX.toArray.size≤sizeLine;rw[aag,←hl];exact hz) pD.1 fun h9 Yp e9=>?_
    have I9:Inv XB [] σ6 H8 {s8 with heap:=h9}:=by
     have J8:Inv XB [] σ6 H8 s8:=I8.yD fun p hp=>nomatch hp
     exact J8.turned (t':=s8.toks) (it:=D) (fun b o hb e=>Yp.extBut b o hb e) pD.2.1 LU (.inr (Nat.le_of_eq hD)) (fun x c e=>Ro x c e) fun p hp=>by simp[XB,Cx.block] at hp
    refine⟨m',hm,i+1,ys++[v],hX++[y],n+1,σ6,H8,I9.yD fun p hp=>?_,vs.append (.cons r8 .nil),T.keep _ _ _ st8 fun b hb o e=>Yp.extBut b o (Yo b hb) e,fr8,w8⟩
    rw[US.mp hp]
    refine⟨?_,pD.2.1,LU,fun hm=>?_,fun v z=>nomatch z⟩
    ·rw[e9]
     show some _=some _
     rw[List.push_toArray]
    ·exact pD.2.2.2.1 hm
 exact codeAny_compStart_list loop (T.self _ 0 _ _ _ HM loop)
variable{elt tg iter:Expr}{ifs:List Expr}{pos J2 py:Pos}{wi:TI}{g:TG}{tt:TT}{te:TE}
theorem xm{D:Addr}{ys:List V}{hX:List Value}{n:Nat}{H':Hp}{s':Shared}{fp:List Addr}(I:Inv X c_ σ H s)(hf:∀b∈fp,tX X c_ H b)(hD:s.heap.objs.size≤D)(e:s'.heap.get? D=some (BS hX n))(vs:Vals ys hX)(hz:ys.length≤sizeLine)
  (nD:H' D=none) (os:s'.os=s.os) (bare:AllBare s'.gens) (un:Un (qY X.stack) fp H H' s.heap s'.heap) (iH:qJ X.prog X.w H' s'.heap):Inv X c_ σ (upd H' D (.lst ys)) s':=by
 have neD:∀b o,s.heap.get? b=some o→b≠D:=fun b o q=>aaW (aaE (aax q) hD)
 refine I.Ma (ch:=fp) os ⟨un.keep,un.slot,fun b o q nn hx=>by rw[d_ (neD b o q)];exact un.free b o q nn hx,un.there,fun b xs q=>?_,fun b o u q=>?_,fun b ps q=>?_⟩ (iH.Qt nD ⟨hz,hX,n,vs,e⟩) bare fun b hb=>?_
 ·have q':=un.qX b xs q
  rw[d_ (gb q' nD)];exact q'
 ·have q':=un.tV b o u q
  rw[d_ (gb q' nD)];exact q'
 ·obtain⟨more,q'⟩:=un.vS b ps q
  exact⟨more,by rw[d_ (gb q' nD)];exact q'⟩
 ·obtain⟨f0,f1,f2,f3,f4,f5⟩:=hf b hb
  exact⟨f3,f1,f4,f5⟩
theorem y0{C:Addr}{h':Heap}{s0:Shared}(I:Inv X c_ σ H s)(hC:s0.heap.objs.size≤C)(nC:H C=none)(Rp:Heap.SameBut C s.heap h')(I0:∃σ0 H0,Inv X c_ σ0 H0 s0):Inv X c_ σ H {s with heap:=h'}:=by
 obtain⟨σ0,H0,I0⟩:=I0
 obtain⟨_,f1,_,f3,f4,f5⟩:=I0.yf (H':=fun _=>none) hC rfl
 exact I.turned (t':=s.toks) (fun b o hb e=>Rp.extBut b o hb e) nC f1 f3 f4 f5
theorem xn(N:List Str)(out:List (Str×NameKind))(is:List Nat)(hc:X.calm=true)(hi:PI X tg iter wi)(hk:scope.kind=.function)(hs:Ha N out is scope.names=true)
  (hg:∀C s H ex,PG (X.block scope (jy X.env.cells scope.names []) C s H ex) tg g) (ht:∀C s H ex,Nx (X.block scope (jy X.env.cells scope.names []) C s H ex) ifs tt)
  (he:∀C s H ex,∃t,PE (X.block scope (jy X.env.cells scope.names []) C s H ex) elt t∧t=te) (zZ:∀x,foldedSetIterable iter X.env x=pure x:=by intro _;rfl) (eN:X.N=N:=by rfl) (eo:X.env.scope.names=out:=by rfl) :
  PE X (.ListComp elt [⟨tg,iter,ifs,0⟩] scope pos) (S4 is wi g tt te):=by
 intro c_ s σ H Q I h
 subst eN eo
 have S:=BR.of hs
 rw[eval_ListComp]
 refine wpAny_comprehension_free (use:=none) rfl zZ (tq (yZ I S)) hk S.loc (i3 (hi c_ s σ H _ I h) fun v s1 h1=>i3 h1 fun Ta s2 h2=>?_)
 obtain⟨it,fp,tn,J,H2,rfl,I2,T,AU,f2,h2⟩:=h2
 refine Be (RR:=fun acc C=>compPost (model X.prog X.w) X.A X.xe none (EP X c_ σ Q) acc C) I2 hc S hk hg ht (fun C s H ex=>let ⟨_,h,e⟩:=he C s H ex;PE.eqv h e) T AU f2 h2 ?_
 intro D C ys hX n H' s' m hD hC LU hn e vs hz nD nC os bare un iH q
 have J1:Inv X c_ σ (upd H' D (.lst ys)) s':=xm I2 f2 hD e vs hz nD os bare un iH
 refine⟨m,hn,fun h' Rp=>⟨.ref D,_,y0 J1 hC (by rw[d_ (abQ LU)];exact nC) Rp ⟨_,_,I2⟩,rfl,q D nD⟩⟩
theorem Bf{y:Str}{j:Nat}(N:List Str)(out:List (Str×NameKind))(is:List Nat)(hN:X.N.Nodup)(hj:X.N[j]?=some y)(hy:X.env.scope.names.lookup y=some .local)(hc:X.calm=true)(hi:PI X tg iter wi)(hk:scope.kind=.function)(hs:Ha N out is scope.names=true)
  (hg:∀C s H ex,PG (X.block scope (jy X.env.cells scope.names []) C s H ex) tg g) (ht:∀C s H ex,Nx (X.block scope (jy X.env.cells scope.names []) C s H ex) ifs tt)
  (he:∀C s H ex,∃t,PE (X.block scope (jy X.env.cells scope.names []) C s H ex) elt t∧t=te)
  (Vt:swapsWith (.ListComp elt [⟨tg,iter,ifs,0⟩] scope pos) (some (.Name y py)) J2.line X.env=pure true:=by rfl) (zZ:∀x,foldedSetIterable iter X.env x=pure x:=by intro _;rfl) (eN:X.N=N:=by rfl) (eo:X.env.scope.names=out:=by rfl) :
  PS X (.Assign [.Name y py] (.ListComp elt [⟨tg,iter,ifs,0⟩] scope pos) J2) (Ii (S4 is wi g tt te) (l6 j)):=by
 intro c_ s σ H Dn I h
 subst eN eo
 have S:=BR.of hs
 rw[exec_Assign_Name_used _ _ _ _ Vt]
 refine UP (wpAny_standAt (UP ?_))
 show wpAny _ _ (do let _ ←comprehension (.ListComp elt [⟨tg,iter,ifs,0⟩] scope pos) scope X.env _ (newList []) false (eval iter X.env) (some (assign (.Name y py) X.env))) _ _ s
 refine UP (abp (wpAny_comprehension_free (use:=some (assign (.Name y py) X.env)) (Q:=fun _ s'=>SP X c_ Dn .next s') rfl zZ (tq (yZ I S)) hk S.loc
  (i3 (hi c_ s σ H _ I h) fun v s1 h1=>i3 h1 fun Ta s2 h2=>?_)) (fun _ s' hq=>aab (aab hq)) fun _ _ e=>e)
 obtain⟨it,fp,tn,J,H2,rfl,I2,T,AU,f2,h2⟩:=h2
 refine Be (RR:=fun acc C=>compPost (model X.prog X.w) X.A X.xe (some (assign (.Name y py) X.env)) (fun _ s'=>SP X c_ Dn .next s') acc C) I2 hc S hk hg ht (fun C s H ex=>let ⟨_,h,e⟩:=he C s H ex;PE.eqv h e) T AU f2 h2 ?_
 intro D C ys hX n H' s' m hD hC LU hn e vs hz nD nC os bare un iH q
 have J1:Inv X c_ σ (upd H' D (.lst ys)) s':=xm I2 f2 hD e vs hz nD os bare un iH
 show wpAny _ _ (assign (.Name y py) X.env (.ref D)) _ _ _
 refine wpAny_assign_Name (AZ J1 hN hj (.inl hy) (v:=.ref D) rfl (fun s5 J5 ⟨a,sb,ha⟩=>?_) (.inr hy))
 have hCa:C≠a:=by
  obtain⟨_,f1,_,f3,f4,f5⟩:=I2.yf (H':=fun _=>none) hC rfl
  rcases ha with z|z
  ·rw[z];exact f1
  ·exact fun q=>f4 _ _ z q.symm
 exact⟨m,hn.sameBut sb hCa,fun h' Rp=>⟨_,_,y0 J5 hC (by rw[d_ (abQ LU)];exact nC) Rp ⟨_,_,I2⟩,q D nD⟩⟩
end
section
variable{X:Cx}{elt tg iter:Expr}{ifs:List Expr}{scope:Scope}{pos:Pos}{wi:TI}{g:TG}{tt:TT}{te:TE}{py J2:Pos}
theorem p3(N:List Str)(out:List (Str×NameKind))(is:List Nat)(hc:X.calm=true)(hi:PI X tg iter wi)(hk:scope.kind=.function)(hs:Ha N out is scope.names=true)
 (hg:∀C s H ex,PG (X.block scope (jy X.env.cells scope.names []) C s H ex) tg g) (ht:∀C s H ex,∃t,Nx (X.block scope (jy X.env.cells scope.names []) C s H ex) ifs t∧t=tt)
 (he:∀C s H ex,∃t,PE (X.block scope (jy X.env.cells scope.names []) C s H ex) elt t∧t=te) (zZ:∀x,foldedSetIterable iter X.env x=pure x:=by intro _;rfl) (eN:X.N=N:=by rfl) (eo:X.env.scope.names=out:=by rfl) :
 PE X (.ListComp elt [⟨tg,iter,ifs,0⟩] scope pos) (S4 is wi g tt te):=xn N out is hc hi hk hs hg (fun C s H ex=>let ⟨_,h,e⟩:=ht C s H ex;e▸h) he zZ eN eo
theorem BU{y:Str}{j:Nat}(N:List Str)(out:List (Str×NameKind))(is:List Nat)(hN:X.N.Nodup)(hj:X.N[j]?=some y)(hy:X.env.scope.names.lookup y=some .local)(hc:X.calm=true)(hi:PI X tg iter wi)(hk:scope.kind=.function)(hs:Ha N out is scope.names=true)
 (hg:∀C s H ex,PG (X.block scope (jy X.env.cells scope.names []) C s H ex) tg g) (ht:∀C s H ex,∃t,Nx (X.block scope (jy X.env.cells scope.names []) C s H ex) ifs t∧t=tt)
 (he:∀C s H ex,∃t,PE (X.block scope (jy X.env.cells scope.names []) C s H ex) elt t∧t=te)
 (Vt:swapsWith (.ListComp elt [⟨tg,iter,ifs,0⟩] scope pos) (some (.Name y py)) J2.line X.env=pure true:=by rfl) (zZ:∀x,foldedSetIterable iter X.env x=pure x:=by intro _;rfl) (eN:X.N=N:=by rfl) (eo:X.env.scope.names=out:=by rfl) :
 PS X (.Assign [.Name y py] (.ListComp elt [⟨tg,iter,ifs,0⟩] scope pos) J2) (Ii (S4 is wi g tt te) (l6 j)):=Bf N out is hN hj hy hc hi hk hs hg (fun C s H ex=>let ⟨_,h,e⟩:=ht C s H ex;e▸h) he Vt zZ eN eo
end
theorem uS{lo:Int}{n:Nat}{g:TG}{tt:TT}{te:TE}{Q:List V→Hp→Prop}{σ:St}{H:Hp}(hn:n≤sizeLine)(Pv:Nat→List V→St→Hp→Prop)(h0:Pv 0 [] σ H)(hlen:∀i ys σ H,Pv i ys σ H→ys.length≤i)
  (hs:∀i ys σ H,i<n→Pv i ys σ H→g (.int (lo+i)) σ H fun σ2 H2=>tt σ2 H2 fun b H3=>if b=true then te σ2 H3 fun v H4=>Pv (i+1) (ys++[v]) σ2 H4 else Pv (i+1) ys σ2 H3)
  (hd:∀ys σ H,Pv n ys σ H→Q ys H):Fi g tt te (Mc lo n) Q σ H:=by
 refine⟨fun i m ys σ H=>m=n-i∧i≤n∧Pv i ys σ H,⟨n,by simp,aaK _,h0⟩,?_⟩
 rintro i m ys σ H ⟨rfl,hi,p⟩
 have hl:=hlen i ys σ H p
 by_cases lq:i<n
 ·refine .inr ⟨lq,by omega,Pv (i+1),fun ON σ' H' p'=>⟨n-(i+1),by omega,rfl,lq,p'⟩,fun x H' y=>?_⟩
  obtain⟨rfl,rfl⟩:=y
  exact hs i ys σ _ lq p
 ·have e:i=n:=by omega
  subst e
  exact .inl ⟨U0 _,by omega,hd ys σ H p⟩
theorem jE{K:Qqy}{a:Addr}{xs:List V}{g:TG}{tt:TT}{te:TE}{Q:List V→Hp→Prop}{σ:St}{H:Hp}(hn:xs.length≤sizeLine)(Pv:Nat→List V→St→Hp→Prop)(h0:Pv 0 [] σ H)(hl:∀i ys σ H,i≤xs.length→Pv i ys σ H→hV K H a xs∧ys.length≤i)
  (hs:∀i x ys σ H,xs[i]?=some x→Pv i ys σ H→g x σ H fun σ2 H2=>tt σ2 H2 fun b H3=>if b=true then te σ2 H3 fun v H4=>Pv (i+1) (ys++[v]) σ2 H4 else Pv (i+1) ys σ2 H3)
  (hd:∀ys σ H,Pv xs.length ys σ H→Q ys H):Fi g tt te (Pn K a) Q σ H:=by
 refine⟨fun i m ys σ H=>m=xs.length-i∧i≤xs.length∧Pv i ys σ H,⟨xs.length,by simp,aaK _,h0⟩,?_⟩
 rintro i m ys σ H ⟨rfl,hi,p⟩
 obtain⟨q,hy⟩:=hl i ys σ H hi p
 by_cases lq:i<xs.length
 ·refine .inr ⟨⟨xs,xs[i],q,by simp[lq]⟩,by omega,Pv (i+1),fun ON σ' H' p'=>⟨xs.length-(i+1),by omega,rfl,lq,p'⟩,fun x H' y=>?_⟩
  obtain⟨rfl,y⟩:=y
  exact hs i x ys σ _ (y xs q) p
 ·have e:i=xs.length:=by omega
  subst e
  exact .inl ⟨⟨xs,q,U0 _⟩,by omega,hd ys σ H p⟩
end L2
namespace PySem
section
variable{prog:Program}{w:World}{A:Around}{E:Qqq}{s:Shared}
end
end PySem
namespace L2
open PySem PySem.Spec PyProof.Rows
noncomputable def Qu(lo st:Int)(n:Nat):It:=⟨fun i _=>i<n,fun i H x H'=>H'=H∧x=.int (lo+i*st),fun i _=>n≤i⟩
theorem Dy{P:Program}{w:World}{K:PySem.W.Frag}{tg:Expr}(it:Addr)(lo st:Int)(n:Nat):Turn P w K tg (Qu lo st n) [it] it (fun i h=>IsRangeIter h it (lo+(i:Nat)*st) ((n:Int)-(i:Nat)) st) where
 mem:=by simp
 obj:=fun i h st b hb=>by
  have e:b=it:=by simpa using hb
  subst e
  exact⟨_,st,fun v z=>by
   have z':Data.fields _=Data.cell v:=z
   cases z'⟩
 keep:=fun i h h' st k=>k it (by simp) _ st
 item:=by
  intro X hP hw hK hc i c_ s σ H E I hf stt hg
  subst hP hw hK
  obtain⟨f0,f1,f2,f3,f4,f5⟩:=hf it (by simp)
  have W:=Walks.range (prog:=X.prog) (w:=X.w) (I.ok.hd hc) it lo st n
  refine W.item i s _ _ hg stt fun v h' tk hv yP kk=>?_
  obtain⟨t,rfl⟩:=hv
  have I1:Inv X c_ σ H {s with heap:=h',toks:=tk}:=I.turned (fun b o hb e=>kk b o (by simpa using hb) e) f0 f1 f3 f4 f5
  exact⟨_,rfl,xc (s:={s with heap:=h',toks:=tk}) (n:="range_iterator") yP rfl rfl (by decide) ⟨.int (lo+i*st),H,I1,⟨t,rfl⟩,⟨rfl,rfl⟩,yP,fun b hb=>(hf b hb).1⟩⟩
 done:=by
  intro X hP hw hK hc i c_ s σ H E I hf st hg
  subst hP hw hK
  obtain⟨f0,f1,f2,f3,f4,f5⟩:=hf it (by simp)
  exact wpAny_pyNext_range_end (I.ok.hd hc) st (by have:n≤i:=hg;omega) fun h' eb=>⟨rfl,I.turned (t':=s.toks) (fun b o hb e=>eb b o hb e) f0 f1 f3 f4 f5⟩
 self:=fun _ _ _ _ _ st h=>wpAny_pyIter_rangeiter st h
theorem rangeSize_down(a b:Int):Builtin.Range.rangeSize a b (-1)=((a-b).toNat:Int):=by
 unfold Builtin.Range.rangeSize
 simp only [show ¬((-1:Int)>0) by decide,abZ]
 have e:(- -1:Int)=1:=by decide
 rw[e,Int.ediv_one]
 split<;>omega
theorem small_down{a b:Int}(ha:-(2 ^ 61)≤a)(ha':a<2 ^ 61)(hb:-(2 ^ 61)≤b)(hb':b<2 ^ 61):Builtin.Range.small a b (-1)=true:=by
 unfold Builtin.Range.small
 rw[rangeSize_down]
 simp only [Builtin.Range.rangeFitsLong,aaZ,acm,abI,ab3,show ¬((-1:Int)>0) by decide,abZ]
 omega
section
variable{X:Cx}{tg:Expr}
def Qv(ta:TA):TI:=fun σ H R=>ta σ H fun vs H1=>∃i j:Int,vs=[.int i,.int j,.int (-1)]∧(-(2 ^ 61)≤i∧i<2 ^ 61∧-(2 ^ 61)≤j∧j<2 ^ 61)∧R (Qu i (-1) (i-j).toNat) H1
theorem we{a b c:Expr}{ta:TA}{p pos:Pos}(hg:Gl X "range")(hm:X.mg "range"=none)(ha:PA X [a,b,c] ta)(hs:starEach [a,b,c] X.env=[(false,eval a X.env),(false,eval b X.env),(false,eval c X.env)]:=by rfl)
  (HZ:starEach [b,c] X.env=[(false,eval b X.env),(false,eval c X.env)]:=by rfl):PI X tg (.Call (.Name "range" p) [a,b,c] [] pos) (Qv ta):=by
 intro c_ s σ H R I h
 refine Call_ (o4 I hg hm boot_range (aa0 (i3 (ha pos c_ s σ H _ I h) fun us s1 ⟨vs,H1,I1,r1,q1⟩=>?_) (by rw[hs,HZ]) (by rw[HZ];rfl)))
 obtain⟨i,j,e,⟨q1,q2,q3,q4⟩,q⟩:=q1
 subst e
 cases r1 with
 | cons r rr=>
  cases rr with
  | cons r' rr=>
   cases rr with
   | cons r'' rr=>
    cases rr
    obtain⟨t,rfl⟩:=r
    obtain⟨t',rfl⟩:=r'
    obtain⟨Yq,rfl⟩:=r''
    refine call_range_3 (by decide) ?_ (Or.inl (PyProof.noPylong_small (by decide)))
    refine wpAny_pyIter_range (IsRange.new ..) (small_down q1 q2 q3 q4) ?_
    generalize ho:({cls:=.type "range",data:=.fields #[.int i t,.int j t',.int (-1) Yq]}:Obj)=o
    have I2:Inv X c_ σ H1 {s1 with heap:=s1.heap.push o,toks:=s1.toks}:=I1.kept fun b o e=>aac _ e
    refine⟨(s1.heap.push o).objs.size,[(s1.heap.push o).objs.size],_,_,H1,rfl,I2.kept (t':=s1.toks) fun b o e=>aac _ e,Dy _ i (-1) (i-j).toNat,?_,fun b hb=>?_,q⟩
    ·show IsRangeIter _ _ (i+((0:Nat):Int)*(-1)) ((((i-j).toNat:Nat):Int)-((0:Nat):Int)) (-1)
     have e1:i+((0:Nat):Int)*(-1)=i:=by simp
     have e2:(((i-j).toNat:Nat):Int)-((0:Nat):Int)=Builtin.Range.rangeSize i j (-1):=by rw[rangeSize_down];simp
     rw[e1,e2]
     exact aaz _ rfl
    ·have e:b=(s1.heap.push o).objs.size:=by simpa using hb
     subst e
     exact I2.yf (U0 _) (I2.iH.fresh (U0 _))
end
theorem t_{lo st:Int}{n:Nat}{g:TG}{tb:TS}{D:Ends}{σ:St}{H:Hp}(Pv:Nat→St→Hp→Prop)(h0:Pv 0 σ H)
  (hs:∀i σ H,i<n→Pv i σ H→g (.int (lo+i*st)) σ H fun σ2 H2=>tb {D with nx:=Pv (i+1),ct:=Pv (i+1),bk:=D.nx} σ2 H2) (hd:∀σ H,Pv n σ H→D.nx σ H) :
  ∃W:Nat→Nat→St→Hp→Prop,(∃m,W 0 m σ H)∧∀i m σ H,W i m σ H→
   ((Qu lo st n).stop i H∧D.nx σ H)∨((Qu lo st n).go i H∧∃N:St→Hp→Prop,(∀σ' H',N σ' H'→∃m',m'<m∧W (i+1) m' σ' H')∧∀x H',(Qu lo st n).Ij i H x H'→g x σ H' fun σ2 H2=>tb {D with nx:=N,ct:=N,bk:=D.nx} σ2 H2):=by
 refine⟨fun i m σ H=>m=n-i∧i≤n∧Pv i σ H,⟨n,by simp,aaK _,h0⟩,?_⟩
 rintro i m σ H ⟨rfl,hi,p⟩
 by_cases lq:i<n
 ·refine .inr ⟨lq,Pv (i+1),fun σ' H' p'=>⟨n-(i+1),by omega,rfl,lq,p'⟩,fun x H' y=>?_⟩
  obtain⟨e,y⟩:=y
  subst e y
  exact hs i σ _ lq p
 ·have e:i=n:=by omega
  subst e
  exact .inl ⟨U0 _,hd σ H p⟩
section
variable{X:Cx}
theorem xo:uK X (.builtin "isinstance") (fun xs H Q=>∃x T t b,xs=[x,.ty T]∧vY X.K H x t∧W.kitOne X.K t (.type T)=some b∧Q (.bl b) H):=by
 intro c_ s σ H xs us Q I r h
 obtain⟨x,T,t,b,rfl,ty,e,q⟩:=h
 obtain⟨u,u',rfl,ru,ru'⟩:=vals2 r
 cases (show u'=Value.type T from ru')
 exact G4 I ru ty e fun tk=>⟨.bl b,H,I.tok tk,rfl,q⟩
theorem y4:∀{xs:List Str} {us:List Value},Vals (xs.map V.str) us→StrsAre us xs
 | [],_,h=>by cases h;exact .nil
 | x::r,_,h=>by
  cases h with
  | cons a t=>
   obtain⟨tk,rfl⟩:=a
   exact .cons x tk (y4 t)
def rJoin(K:Qqy):V→List V→Hp→VK→Prop:=fun x vs H Q=>∃z l xs,x=.str z∧vs=[.ref l]∧hV K H l (xs.map V.str)∧(xs.map (·.length)).sum+xs.length*z.length≤16777216∧Q (.str (Txt.join z xs)) H
theorem K0:Uz X "str.join" (rJoin X.K):=by
 intro c_ s σ H x xs v us Q I rx r h
 obtain⟨z,l,ys,rfl,rfl,hl,hz,q⟩:=h
 obtain⟨u,rfl,ru⟩:=vals1 r
 cases ru
 obtain⟨t,rfl⟩:=rx
 obtain⟨hX,rv,p,_⟩:=I.list hl
 exact join_list p.isList (by simpa using y4 rv) hz fun t' k=>⟨.str _,H,I.tok k,⟨t',rfl⟩,q⟩
end
inductive sX(K:Qqy)(H:Hp):Nat→V→V→Bool→Prop
 | flat {n x y} (fx:lH x=true) (fy:lH y=true):sX K H n x y (HV x y)
 | lists {n a c xs ys} {e:Nat→Bool} (h1:hV K H a xs) (h2:hV K H c ys) (hl:xs.length=ys.length) (he:∀(j:Nat) u v,xs[j]?=some u→ys[j]?=some v→sX K H n u v (e j)):sX K H (n+1) (.ref a) (.ref c) ((List.range xs.length).all e)
 | K1 {n a c xs ys} (h1:hV K H a xs) (h2:hV K H c ys) (hl:xs.length≠ys.length):sX K H n (.ref a) (.ref c) false
 | qX {n a c xs ys} {e:Nat→Bool} (h1:pk K H a xs) (h2:pk K H c ys) (he:∀(j:Nat) u v,xs[j]?=some u→ys[j]?=some v→sX K H n u v (e j)):sX K H (n+1) (.ref a) (.ref c) ((List.range (min xs.length ys.length)).all e&&xs.length ==ys.length)
 | wg {n a xs y} (h1:hV K H a xs) (fy:lH y=true):sX K H n (.ref a) y false
 | wj {n a xs y} (h1:hV K H a xs) (fy:lH y=true):sX K H n y (.ref a) false
 | y6 {n a xs y} (h1:pk K H a xs) (fy:lH y=true):sX K H n (.ref a) y false
 | y7 {n a xs y} (h1:pk K H a xs) (fy:lH y=true):sX K H n y (.ref a) false
 | y8 {n a c xs ys} (h1:hV K H a xs) (h2:pk K H c ys):sX K H n (.ref a) (.ref c) false
 | y9 {n a c xs ys} (h1:pk K H a xs) (h2:hV K H c ys):sX K H n (.ref a) (.ref c) false
theorem IJ:∀{x:V},lH x=true→HV x x=true:=by
 intro x h
 cases x<;>simp[lH,HV] at *
section
variable{X:Cx}{c_:Qqz}{σ:St}{H:Hp}{s:Shared}
theorem Inv.Mj{a c:Addr}{xs ys:List V}(I:Inv X c_ σ H s)(h1:hV X.K H a xs)(h2:pk X.K H c ys):a≠c:=by
 obtain⟨hX,_,p,_⟩:=I.list h1
 obtain⟨l0,_,p2,_⟩:=I.tuple h2
 exact SeqAt.ne_of_list_tuple p.isList (show s.heap.IsTuple c l0.toArray from p2)
theorem sX.self{n:Nat}{x y:V}{b:Bool}(I:Inv X c_ σ H s)(h:sX X.K H n x y b):x=y→b=true:=by
 induction h with
 | flat fx fy=>intro e;subst e;exact IJ fx
 | lists h1 h2 hl he ih=>
  intro e
  cases e
  have:=I.pw h1 h2
  subst this
  refine abO.mpr fun j hj=>?_
  have hj:=acg.mp hj
  exact ih j _ _ (VN hj) (VN hj) rfl
 | K1 h1 h2 hl=>intro e;cases e;exact absurd (aa5 List.length (I.pw h1 h2)) hl
 | qX h1 h2 he ih=>
  intro e
  cases e
  have:=I.A1 h1 h2
  subst this
  rw[aaZ]
  refine⟨abO.mpr fun j hj=>?_,by simp⟩
  have hj:=acg.mp hj
  rw[Nat.min_self] at hj
  exact ih j _ _ (VN hj) (VN hj) rfl
 | wg h1 fy=>intro e;subst e;exact absurd (show false=true from fy) aai
 | wj h1 fy=>intro e;subst e;exact absurd (show false=true from fy) aai
 | y6 h1 fy=>intro e;subst e;exact absurd (show false=true from fy) aai
 | y7 h1 fy=>intro e;subst e;exact absurd (show false=true from fy) aai
 | y8 h1 h2=>intro e;cases e;exact absurd rfl (I.Mj h1 h2)
 | y9 h1 h2=>intro e;cases e;exact absurd rfl (I.Mj h2 h1)
theorem p5{y:V}{v:Value}(r:RelV y v)(f:lH y=true):v=.none∨(∃b,v=.bool b)∨(∃i t,v=.int i t)∨∃x t,v=.str x t:=by
 cases y with
 | jn=>exact .inl r
 | bl b=>exact .inr (.inl ⟨b,r⟩)
 | int i=>obtain⟨t,e⟩:=r;exact .inr (.inr (.inl ⟨i,t,e⟩))
 | str x=>obtain⟨t,e⟩:=r;exact .inr (.inr (.inr ⟨x,t,e⟩))
 | _=>exact absurd (show false=true from f) aai
theorem oE{xs:List V}{hX:List Value}(rv:Vals xs hX){j:Nat}(h:j<hX.toArray.size):∃x,xs[j]?=some x∧RelV x hX.toArray[j]:=by
 have hl:=rv.length
 have hj:j<hX.length:=by simpa using h
 have hx:j<xs.length:=by omega
 obtain⟨u,hu,ru⟩:=rv.get (VN hx)
 refine⟨xs[j],VN hx,?_⟩
 rw[VN hj] at hu
 cases hu
 simpa using ru
theorem sX.at{n:Nat}{x y:V}{b:Bool}(I:Inv X c_ σ H s)(h:sX X.K H n x y b):∀(A:Around)(u v:Value),RelV x u→RelV y v→A.units+n<cLine→SeqAt.EqAt A s u v b:=by
 induction h with
 | flat fx fy=>intro A u v ru rv _;exact Iw ru rv fx fy
 | @lists n a c xs ys e h1 h2 hl he ih=>
  intro A u v ru rv hu
  cases ru;cases rv
  by_cases Rq:a=c
  ·subst Rq
   have hb:=sX.self I (sX.lists h1 h2 hl he) rfl
   rw[hb]
   exact SeqAt.EqAt.same _
  ·obtain⟨hX,r1,p1,_⟩:=I.list h1
   obtain⟨l0,r2,p2,_⟩:=I.list h2
   have l1:=r1.length
   have l2:=r2.length
   refine SeqAt.EqAt.of_refs Rq ?_
   have q:=SeqAt.RcAt.lists (A:=A) (e:=e) p1.isList p2.isList (by simp;omega) (by omega) fun j g1 g2=>by
    obtain⟨x,ex,rx⟩:=oE r1 g1
    obtain⟨y,ey,ry⟩:=oE r2 g2
    exact ih j x y ex ey A.in1 _ _ rx ry (by show A.units+1+n<cLine;omega)
   rw[aag,←l1] at q
   exact q
 | @K1 n a c xs ys h1 h2 hl=>
  intro A u v ru rv hu
  cases ru;cases rv
  obtain⟨hX,r1,p1,_⟩:=I.list h1
  obtain⟨l0,r2,p2,_⟩:=I.list h2
  have l1:=r1.length
  have l2:=r2.length
  refine SeqAt.EqAt.of_refs (fun e=>?_) (SeqAt.RcAt.lists_lengths p1.isList p2.isList (by simp;omega) (by omega))
  subst e
  exact hl (aa5 List.length (I.pw h1 h2))
 | @qX n a c xs ys e h1 h2 he ih=>
  intro A u v ru rv hu
  cases ru;cases rv
  by_cases Rq:a=c
  ·subst Rq
   have hb:=sX.self I (sX.qX h1 h2 he) rfl
   rw[hb]
   exact SeqAt.EqAt.same _
  ·obtain⟨hX,r1,p1,_⟩:=I.tuple h1
   obtain⟨l0,r2,p2,_⟩:=I.tuple h2
   have l1:=r1.length
   have l2:=r2.length
   refine SeqAt.EqAt.of_refs Rq ?_
   have q:=SeqAt.RcAt.tuples (A:=A) (e:=e) (show s.heap.IsTuple a hX.toArray from p1) (show s.heap.IsTuple c l0.toArray from p2) (by omega) fun j g1 g2=>by
    obtain⟨x,ex,rx⟩:=oE r1 g1
    obtain⟨y,ey,ry⟩:=oE r2 g2
    exact ih j x y ex ey A.in1 _ _ rx ry (by show A.units+1+n<cLine;omega)
   rw[aag,aag,←l1,←l2] at q
   exact q
 | @wg n a xs y h1 fy=>
  intro A u v ru rv hu
  cases ru
  obtain⟨hX,r1,p1,_⟩:=I.list h1
  rcases p5 rv fy with rfl|⟨b,rfl⟩|⟨i,t,rfl⟩|⟨x,t,rfl⟩
  ·exact .list_none p1.isList (by omega)
  ·exact .list_bool b p1.isList (by omega)
  ·exact .list_int i t p1.isList (by omega)
  ·exact .list_str x t p1.isList (by omega)
 | @wj n a xs y h1 fy=>
  intro A u v ru rv hu
  cases rv
  obtain⟨hX,r1,p1,_⟩:=I.list h1
  rcases p5 ru fy with rfl|⟨b,rfl⟩|⟨i,t,rfl⟩|⟨x,t,rfl⟩
  ·exact .none_list p1.isList (by omega)
  ·exact .bool_list b p1.isList (by omega)
  ·exact .int_list i t p1.isList (by omega)
  ·exact .str_list x t p1.isList (by omega)
 | @y6 n a xs y h1 fy=>
  intro A u v ru rv hu
  cases ru
  obtain⟨hX,r1,p1,_⟩:=I.tuple h1
  have p1:s.heap.IsTuple a hX.toArray:=p1
  rcases p5 rv fy with rfl|⟨b,rfl⟩|⟨i,t,rfl⟩|⟨x,t,rfl⟩
  ·exact .tuple_none p1 (by omega)
  ·exact .tuple_bool b p1 (by omega)
  ·exact .tuple_int i t p1 (by omega)
  ·exact .tuple_str x t p1 (by omega)
 | @y7 n a xs y h1 fy=>
  intro A u v ru rv hu
  cases rv
  obtain⟨hX,r1,p1,_⟩:=I.tuple h1
  have p1:s.heap.IsTuple a hX.toArray:=p1
  rcases p5 ru fy with rfl|⟨b,rfl⟩|⟨i,t,rfl⟩|⟨x,t,rfl⟩
  ·exact .none_tuple p1 (by omega)
  ·exact .bool_tuple b p1 (by omega)
  ·exact .int_tuple i t p1 (by omega)
  ·exact .str_tuple x t p1 (by omega)
 | @y8 n a c xs ys h1 h2=>
  intro A u v ru rv hu
  cases ru;cases rv
  obtain⟨hX,r1,p1,_⟩:=I.list h1
  obtain⟨l0,r2,p2,_⟩:=I.tuple h2
  exact .list_tuple p1.isList (show s.heap.IsTuple c l0.toArray from p2) (by omega)
 | @y9 n a c xs ys h1 h2=>
  intro A u v ru rv hu
  cases ru;cases rv
  obtain⟨hX,r1,p1,_⟩:=I.tuple h1
  obtain⟨l0,r2,p2,_⟩:=I.list h2
  exact .tuple_list (show s.heap.IsTuple a hX.toArray from p1) p2.isList (by omega)
def Ny(x y:V):Prop:=∃a c,x=.ref a∧y=.ref c
theorem sX.rc{n:Nat}{x y:V}{b:Bool}{A:Around}{u v:Value}(I:Inv X c_ σ H s)(h:sX X.K H n x y b)(sq:Ny x y)(ru:RelV x u)(rv:RelV y v)(hu:A.units+n+1<cLine):SeqAt.RcAt A s u v b∧SeqAt.RcNeAt A s u v (!b):=by
 obtain⟨a0,c0,rfl,rfl⟩:=sq
 cases ru;cases rv
 cases h with
 | flat fx fy=>exact absurd (show false=true from fx) aai
 | @lists n a c xs ys e h1 h2 hl he=>
  obtain⟨hX,r1,p1,_⟩:=I.list h1
  obtain⟨l0,r2,p2,_⟩:=I.list h2
  have l1:=r1.length
  have l2:=r2.length
  have el:∀j (g1:j<hX.toArray.size) (g2:j<l0.toArray.size),SeqAt.EqAt A.in1 s hX.toArray[j] l0.toArray[j] (e j):=fun j g1 g2=>by
   obtain⟨x,ex,rx⟩:=oE r1 g1
   obtain⟨y,ey,ry⟩:=oE r2 g2
   exact(he j x y ex ey).at I A.in1 _ _ rx ry (by show A.units+1+n<cLine;omega)
  have q:=SeqAt.RcAt.lists (A:=A) (e:=e) p1.isList p2.isList (by simp;omega) (by omega) el
  have q':=SeqAt.RcNeAt.lists (A:=A) (e:=e) p1.isList p2.isList (by simp;omega) (by omega) el
  rw[aag,←l1] at q q'
  exact⟨q,q'⟩
 | @K1 n a c xs ys h1 h2 hl=>
  obtain⟨hX,r1,p1,_⟩:=I.list h1
  obtain⟨l0,r2,p2,_⟩:=I.list h2
  have l1:=r1.length
  have l2:=r2.length
  exact⟨SeqAt.RcAt.lists_lengths p1.isList p2.isList (by simp;omega) (by omega),SeqAt.RcNeAt.lists_lengths p1.isList p2.isList (by simp;omega) (by omega)⟩
 | @qX n a c xs ys e h1 h2 he=>
  obtain⟨hX,r1,p1,_⟩:=I.tuple h1
  obtain⟨l0,r2,p2,_⟩:=I.tuple h2
  have l1:=r1.length
  have l2:=r2.length
  have el:∀j (g1:j<hX.toArray.size) (g2:j<l0.toArray.size),SeqAt.EqAt A.in1 s hX.toArray[j] l0.toArray[j] (e j):=fun j g1 g2=>by
   obtain⟨x,ex,rx⟩:=oE r1 g1
   obtain⟨y,ey,ry⟩:=oE r2 g2
   exact(he j x y ex ey).at I A.in1 _ _ rx ry (by show A.units+1+n<cLine;omega)
  have q:=SeqAt.RcAt.tuples (A:=A) (e:=e) (show s.heap.IsTuple a0 hX.toArray from p1) (show s.heap.IsTuple c0 l0.toArray from p2) (by omega) el
  have q':=SeqAt.RcNeAt.tuples (A:=A) (e:=e) (show s.heap.IsTuple a0 hX.toArray from p1) (show s.heap.IsTuple c0 l0.toArray from p2) (by omega) el
  rw[aag,aag,←l1,←l2] at q q'
  exact⟨q,q'⟩
 | wg h1 fy=>exact absurd (show false=true from fy) aai
 | wj h1 fy=>exact absurd (show false=true from fy) aai
 | y6 h1 fy=>exact absurd (show false=true from fy) aai
 | y7 h1 fy=>exact absurd (show false=true from fy) aai
 | @y8 n a c xs ys h1 h2=>
  obtain⟨hX,r1,p1,_⟩:=I.list h1
  obtain⟨l0,r2,p2,_⟩:=I.tuple h2
  exact⟨.list_tuple p1.isList (show s.heap.IsTuple c0 l0.toArray from p2) (by omega),.list_tuple p1.isList (show s.heap.IsTuple c0 l0.toArray from p2) (by omega)⟩
 | @y9 n a c xs ys h1 h2=>
  obtain⟨hX,r1,p1,_⟩:=I.tuple h1
  obtain⟨l0,r2,p2,_⟩:=I.list h2
  exact⟨.tuple_list (show s.heap.IsTuple a0 hX.toArray from p1) p2.isList (by omega),.tuple_list (show s.heap.IsTuple a0 hX.toArray from p1) p2.isList (by omega)⟩
end
section
variable{X:Cx}
def UN(K:Qqy)(n:Nat):R2:=fun x y H Q=>∃b,Ny x y∧sX K H n x y b∧Q (.bl b) H
def UO(K:Qqy)(n:Nat):R2:=fun x y H Q=>∃b,Ny x y∧sX K H n x y b∧Q (.bl (!b)) H
theorem IK(n:Nat)(hu:X.A.units+n+1<cLine):vW X (compareOp .Eq) (UN X.K n):=by
 intro c_ s σ H x y u v Q I rx ry h
 obtain⟨b,sq,e,q⟩:=h
 exact(e.rc I sq rx ry hu).1 X.prog X.w X.xe _ ⟨.bl b,H,I,rfl,q⟩
theorem Nz(n:Nat)(hu:X.A.units+n+1<cLine):vW X (compareOp .NotEq) (UO X.K n):=by
 intro c_ s σ H x y u v Q I rx ry h
 obtain⟨b,sq,e,q⟩:=h
 exact(e.rc I sq rx ry hu).2 X.prog X.w X.xe _ ⟨.bl (!b),H,I,rfl,q⟩
end
theorem sX.K2{K:Qqy}{H:Hp}{n:Nat}{β:Type}[DecidableEq β]{F:β→V→Prop}(hF:∀p q u v,F p u→F q v→sX K H n u v (decide (p=q))){a c:Addr}{xs ys:List V}{ps qs:List β}
  (h1:hV K H a xs) (h2:hV K H c ys) (r1:Paired F ps xs) (r2:Paired F qs ys):sX K H (n+1) (.ref a) (.ref c) (decide (ps=qs)):=by
 have l1:=r1.length
 have l2:=r2.length
 have Rr:∀{ps:List β} {xs:List V},Paired F ps xs→∀(j:Nat) u,xs[j]?=some u→∃p,ps[j]?=some p∧F p u:=by
  intro ps xs r
  induction r with
  | nil=>intro j u h;simp at h
  | cons f t ih=>
   intro j u h
   cases j with
   | zero=>simp at h;subst h;exact⟨_,rfl,f⟩
   | succ j=>simpa using ih j u (by simpa using h)
 by_cases hl:xs.length=ys.length
 ·have e:sX K H (n+1) (.ref a) (.ref c) ((List.range xs.length).all fun j=>decide (ps[j]?=qs[j]?)):=.lists h1 h2 hl fun j u v hu hv=>by
   obtain⟨p,ep,fp⟩:=Rr r1 j u hu
   obtain⟨q,eq,fq⟩:=Rr r2 j v hv
   have:=hF p q u v fp fq
   rw[ep,eq]
   have e:decide (some p=some q)=decide (p=q):=by simp
   rw[e]
   exact this
  have e2:((List.range xs.length).all fun j=>decide (ps[j]?=qs[j]?))=decide (ps=qs):=by
   by_cases h:ps=qs
   ·subst h;simp
   ·rw[aah h,abc]
    intro z
    refine h (List.ext_getElem? fun j=>?_)
    by_cases hj:j<xs.length
    ·simpa using abO.mp z j (acg.mpr hj)
    ·rw[aby.mpr (by omega),aby.mpr (by omega)]
  rw[←e2]
  exact e
 ·rw[aah fun z=>hl (by rw[←l1,←l2,z])]
  exact .K1 h1 h2 hl
theorem sX.NA{K:Qqy}{H:Hp}{n:Nat}(p q:Str):sX K H n (.str p) (.str q) (decide (p=q)):=by
 have:HV (.str p) (.str q)=decide (p=q):=(Bool.beq_eq_decide_eq p q)
 rw[←this]
 exact .flat rfl rfl
structure Pp(P:Program)(w:World)(outer:List Env)(H H':Hp)(s s':Shared)(e C:Addr):Prop where
 os:s'.os=s.os
 bare:AllBare s'.gens
 un:Un (qY outer) [] H H' s.heap s'.heap
 iH:qJ P w H' s'.heap
 fl:∃B t,Heap.FlyingW B outer e (.ref C) (.ref t) s'.heap∧∀b o,s'.heap.get? b=some o→b∉qY outer→((∃u,H' b=some u)∨∃o',s.heap.get? b=some o')→B.get? b=some o
 new:s.heap.get? e=none
 free:H' e=none
def sI(P:Program)(w:World):E4:=fun outer H s E ev s'=>∃e C H',ev=.ref e∧Pp P w outer H H' s s' e C∧E (.ref C) none H'
theorem i5.ex{P:Program}{w:World}{H:Hp}{h:Heap}{a:Addr}{o:HO}(x:i5 P w H h a o):∃ob,h.get? a=some ob:=by
 cases o with
 | lst xs=>obtain⟨_,_,_,_,e⟩:=x;exact⟨_,e⟩
 | tup xs=>obtain⟨_,_,_,o,e,_⟩:=x;exact⟨_,e⟩
 | dK kvs=>obtain⟨_,_,_,_,o,_,_,e,_⟩:=x;exact⟨_,e⟩
 | dT kvs=>obtain⟨_,_,_,_,o,_,_,e,_⟩:=x;exact⟨_,e⟩
 | set S n=>obtain⟨o,_,_,_,e,_⟩:=x;exact⟨_,e⟩
 | ins C dx fs=>obtain⟨_,_,_,e,_⟩:=x;exact⟨_,e⟩
 | own y=>obtain⟨_,e⟩:=x;exact⟨_,e⟩
 | xd fs=>obtain⟨_,⟨_,_,_,e,_⟩,_⟩:=x;exact⟨_,e⟩
 | SW lo hi=>obtain⟨_,_,_,e⟩:=x;exact⟨_,e⟩
 | mQ ob u=>obtain⟨e,_⟩:=x;exact⟨_,e⟩
 | Ko ps=>exact⟨_,(show h.get? a=some _ from x)⟩
 | met f y=>exact⟨_,(show h.get? a=some _ from x)⟩
 | ext φ=>obtain⟨_,⟨_,e⟩,_⟩:=x;exact⟨_,e⟩
section
variable{X:Cx}{c_:Qqz}{σ:St}{H H':Hp}{s s':Shared}{e C:Addr}{M:Model}{E:Qqq}
structure Bd(X:Cx):Prop where
 stack:X.stack=X.env::X.outer
 frame:X.env.frame=some X.env.locals
 ex:X.ex=[]
theorem Inv.KG(I:Inv X c_ σ H s){b:Addr}{o:Obj}(h:X.s₀.heap.get? b=some o)(nf:b∉X.fs):b∉qY X.stack:=fun hb=>by
 rcases XW.mp (I.vT b hb) with z|z
 ·rw[z] at h
  exact absurd (aaE (aax h) I.ok.above) (abm _)
 ·exact nf z
theorem IL(I:Inv X c_ σ H s)(bd:Bd X)(un:Un (qY X.stack) [] H H' s.heap s'.heap)(OK:s'.os=s.os)(Rt:AllBare s'.gens)(iH:qJ X.prog X.w H' s'.heap){B OP:Heap}{t:Addr}
  (hB:∀b o,s'.heap.get? b=some o→b∉qY X.stack→((∃u,H' b=some u)∨∃o',s.heap.get? b=some o')→B.get? b=some o)
  (hF:s'.heap.FunFrames B X.stack) (yF:Heap.FlyingW B X.outer e (.ref C) (.ref t) OP) (up:s'.heap.UpToSlots OP) (new:s.heap.get? e=none) (Vu:H' e=none) :
  Pp X.prog X.w X.outer X.H₀ H' X.s₀ {s' with heap:=OP} e C:=by
 have hex:=bd.ex
 have Ru:∀b∈qY X.stack,H' b=none:=fun b hb=>by
  obtain⟨_,o,ho,_⟩:=I.stack.mem hb
  exact un.free b o ho (I.yC b hb) (by simp)
 have GR:∀b u,H' b=some u→b∉qY X.stack:=fun b u hu hb=>by rw[Ru b hb] at hu;cases hu
 have vQ:∀b o u,s'.heap.get? b=some o→H' b=some u→OP.get? b=some o:=fun b o u ho hu=>
  yF.1 b o (hB b o ho (GR b u hu) (.inl ⟨u,hu⟩))
 have qZ:∀b,b∉X.ex:=fun b z=>by rw[hex] at z;cases z
 have outS:∀b,b∈qY X.outer→b∈qY X.stack:=fun b hb=>by
  rw[bd.stack];unfold qY;rw[abu,bd.frame];exact aal _ hb
 refine⟨OK.trans I.os,Rt,⟨fun b o q n hb hx=>?_,fun b o q n hb hx=>?_,fun b o q n hx=>?_,fun b o q hx=>?_,fun b xs q=>un.qX b xs (I.base.qX b xs q),fun b o u q=>un.tV b o u (I.base.tV b o u q),fun b ps q=>?_⟩,fun a u ha=>?_,⟨B,t,yF,fun b o hb nb hc=>?_⟩,?_,Vu⟩
 ·have q1:=I.base.keep b o q n hb (qZ b)
  have nf:=I.KG q hb
  exact yF.1 b o (hB b o (un.keep b o q1 (I.base.free b o q n (qZ b)) nf (by simp)) nf (.inr ⟨o,q1⟩))
 ·obtain⟨sl,q1⟩:=I.base.slot b o q n hb (qZ b)
  obtain⟨HW,q2⟩:=un.any q1 (I.base.free b o q n (qZ b)) (by simp)
  obtain⟨_,o',om,hd⟩:=I.ok.sW.mem hb
  rw[q] at om;cases om
  obtain⟨EK,q3⟩:=up b _ q2 hd
  exact⟨EK,q3⟩
 ·obtain⟨o',q1⟩:=I.base.there b o q (qZ b)
  exact un.free b o' q1 (I.base.free b o q n (qZ b)) (by simp)
 ·obtain⟨o1,q1⟩:=I.base.there b o q (qZ b)
  obtain⟨o2,q2⟩:=un.there b o1 q1 (by simp)
  by_cases hb:b∈qY X.stack
  ·obtain⟨_,o',om,hd⟩:=hF.mem hb
   rw[q2] at om;cases om
   obtain⟨EK,q3⟩:=up b _ q2 hd
   exact⟨_,q3⟩
  ·exact⟨o2,yF.1 b o2 (hB b o2 q2 hb (.inr ⟨o1,q1⟩))⟩
 ·obtain⟨m1,e1⟩:=I.base.vS b ps q
  obtain⟨m2,e2⟩:=un.vS b _ e1
  exact⟨m1++m2,by rw[e2,Array.append_assoc]⟩
 ·refine(iH a u ha).ye (fun b v hb q=>?_) (fun _ z=>z) fun _ _ z=>z
  rcases hb with z|z
  ·rw[z] at q ⊢;exact vQ a v u q ha
  ·exact vQ b v _ q z
 ·have all:∀o1,s'.heap.get? b=some o1→b∉qY X.stack→((∃u,H' b=some u)∨∃o',s.heap.get? b=some o')→B.get? b=some o:=fun o1 q1 nf c=>by
   have z:=hB b o1 q1 nf c
   have z2:=yF.1 b o1 z
   have hb:OP.get? b=some o:=hb
   rw[hb] at z2;cases z2
   exact z
  rcases hc with⟨u,hu⟩|⟨o',om⟩
  ·obtain⟨o1,q1⟩:=(iH b u hu).ex
   exact all o1 q1 (GR b u hu) (.inl ⟨u,hu⟩)
  ·obtain⟨o1,q1⟩:=I.base.there b o' om (qZ b)
   obtain⟨o2,q2⟩:=un.there b o1 q1 (by simp)
   exact all o2 q2 (I.KG om nb) (.inr ⟨o1,q1⟩)
 ·cases q:X.s₀.heap.get? e with
  | none=>rfl
  | some o=>
   obtain⟨o1,q1⟩:=I.base.there e o q (qZ e)
   rw[new] at q1;cases q1
theorem IM(I:Inv X c_ σ H s)(bd:Bd X)(F:Pp X.prog X.w X.stack H H' s s' e C) :
  wpAny M X.A (leaving X.env (.ref e)) (fun _ HJ=>Pp X.prog X.w X.outer X.H₀ H' X.s₀ HJ e C) E s':=by
 obtain⟨B,t,fl,hB⟩:=F.fl
 have Rv:=fl
 rw[bd.stack] at Rv
 refine wpAny_leaves_onW (by rw[I.ok.frames,bd.stack]) bd.frame Rv fun OP yF up=>?_
 exact IL I bd F.un F.os F.bare F.iH hB fl.2.2.1 yF up F.new F.free
theorem Fj{vs:List Value}{h':Heap}(I:Inv X c_ σ H s)(bd:Bd X)(hx:Heap.MadeExcOf s.heap h' e (.ref C) vs) :
  wpAny M X.A (leaving X.env (.ref e)) (fun _ HJ=>Pp X.prog X.w X.outer X.H₀ H X.s₀ HJ e C) E {s with heap:=h'}:=by
 have J3:∀env∈X.stack,∀b,env.frame=some b→b∈qY X.stack:=fun env he b hb=>ab4.mpr ⟨env,he,hb⟩
 have hF:=W.funFrames_hide I.stack J3
 have Vu:H e=none:=by
  cases q:H e with
  | none=>rfl
  | some u=>
   obtain⟨o,ho⟩:=(I.iH e u q).ex
   rw[hx.new] at ho;cases ho
 have un:Un (qY X.stack) [] H H s.heap h':=Un.kept hx.keeps
 have hB:∀b o,h'.get? b=some o→b∉qY X.stack→((∃u,H b=some u)∨∃o',s.heap.get? b=some o')→(W.hideAll s.heap (qY X.stack)).get? b=some o:=fun b o hb nf c=>by
  have:∃o',s.heap.get? b=some o':=by
   rcases c with⟨u,hu⟩|c
   ·exact(I.iH b u hu).ex
   ·exact c
  obtain⟨o',om⟩:=this
  have z:=hx.keeps b o' om
  rw[hb] at z;cases z
  exact W.hideAll_get _ om nf
 have hF2:h'.FunFrames (W.hideAll s.heap (qY X.stack)) X.stack:=hF.of_keeps fun b o ho _=>⟨o,hx.keeps b o ho,rfl⟩
 refine wpAny_leaves_madeW (base:=W.hideAll s.heap (qY X.stack)) (h:=s.heap) (by rw[I.ok.frames,bd.stack]) bd.frame (fun b o q=>W.of_hideAll _ q) (by rw[←bd.stack];exact hF) hx fun OP t yF tup nt up=>?_
 exact IL (s':={s with heap:=h'}) I bd un rfl I.bare (I.iH.kept hx.keeps) hB hF2 yF up hx.new Vu
structure Bx(X:Cx)(E:XK):Prop where
 bd:Bd X
 calm:X.calm=true
 xe:∀ev s',wpAny (model X.prog X.w) X.A (leaving X.env ev) (fun _ HJ=>sI X.prog X.w X.outer X.H₀ X.s₀ E ev HJ) (fun e' HJ=>sI X.prog X.w X.outer X.H₀ X.s₀ E e' HJ) s'→X.xe ev s'
theorem bx{P:Program}{w:World}{K:Qqy}{mg:Qqx}{base:Heap}{N:List Str}{qual:Str}{scope:Scope}{f:Addr}{cd:Value}{A:Around}{outer:List Env}{s:Shared}{H:Hp}{E:XK} :
 Bx (v_ (sI P w) P w K mg base N qual scope f cd A outer s H E) E:=⟨⟨rfl,rfl,rfl⟩,rfl,fun _ _ h=>h⟩
theorem Ml{EX:XK}(b:Bx X EX):Passes (sI X.prog X.w) X EX:=fun c_ σ H s ev s' I ⟨e,C,H',he,F,q⟩=>by
 subst he
 exact b.xe _ _ (i3 (IM I b.bd F) fun _ HJ F'=>⟨e,C,H',rfl,F',q⟩)
theorem IP{P:Program}{w:World}{K:Qqy}{mg:Qqx}{base:Heap}{N:List Str}{qual:Str}{scope:Scope}{f:Addr}{cd:Value}{A:Around}{outer:List Env}{s:Shared}{H:Hp}{E:XK} :
 PassesOwn (model P w) (v_ (sI P w) P w K mg base N qual scope f cd A outer s H E).A (v_ (sI P w) P w K mg base N qual scope f cd A outer s H E).env (v_ (sI P w) P w K mg base N qual scope f cd A outer s H E).xe:=PassesOwn.leaving
structure Exc(K:Qqy)(mg:Qqx)(x:Str)(C:Addr):Prop where
 m:mg x=some (.ref C)
 q:W.excIn K C [.type "ValueError",.type "Exception",.type "BaseException",.type "object"] "ValueError.__new__"=true
def NC(C:Addr)(EX:XK)(ta:TE):TS:=fun _ σ H=>ta σ H fun _ H1=>EX (.ref C) none H1
theorem BV{K:Qqy}{h:Heap}{C:Addr}{Yr:List Value}{newId:String}(X:K.In h)(q:W.excIn K C Yr newId=true):∃bm N nm q bs hdct sn sub ab col dd k0 k1 k2 k3 k5 mN,h.get? C=some (excClassObj nm q C N bs bm hdct sn sub ab col dd k0 k1 k2 k3 k5 newId)∧h.Ns N mN∧mN "__init__"=none∧OwnTail h Yr bm:=by
 unfold W.excIn at q
 split at q
 ·rename_i dd cd sl ho
  split at q
  ·rename_i C' bm k0 k1 k2 k3 n k5 hm hs
   simp only [aaZ,ab3,Bool.not_eq_true'] at q
   obtain⟨⟨⟨⟨⟨rfl,rfl⟩,Rw⟩,ht⟩,iH⟩,Rx⟩:=q
   obtain⟨nm,bs,mro,ns,qn,hd,sn,sub,ab,col,del⟩:=cd
   dsimp only at hm Rw iH Rx
   subst hm Rw
   have J4:sl=#[k0,k1,k2,k3,some (.builtin n),k5]:=by
    obtain⟨l⟩:=sl
    simp only at hs
    rw[hs]
   subst J4
   exact⟨bm,ns,nm,qn,bs,hd,sn,sub,ab,col,dd,k0,k1,k2,k3,k5,_,X _ _ ho,.of_isNs (W.isNs_of_in X iH),W.nsMap_none_of_in X iH Rx,W.tail_of_in X ht⟩
  ·cases q
 ·cases q
theorem kc{EX:XK}{x:Str}{a:Expr}{ta:TE}{np kU pos:Pos}(b:Bx X EX)(O:Exc X.K X.mg x C)(hg:Gl X x)(ha:PE X a ta)
  (Eu:(x ==("__debug__":Str))=false:=by decide) (hs:starEach [a] X.env=[(false,eval a X.env)]:=by rfl):PS X (.Raise (some (.Call (.Name x np) [a] [] kU)) none pos) (NC C EX ta):=by
 intro c_ s σ H D I h
 obtain⟨bm,N,nm,q,bs,hdct,sn,sub,ab,col,dd,k0,k1,k2,k3,k5,mN,hC,hN,Rx,T⟩:=BV I.ok.mod.MW O.q
 refine wpAny_Raise_call_subT (C:=C) (nm:=nm) (q:=q) (N:=N) (bs:=bs) (bm:=bm) (hdct:=hdct) (sn:=sn) (sub:=sub) (ab:=ab) (col:=col) (dd:=dd) (k0:=k0) (k1:=k1) (k2:=k2) (k3:=k3) (k5:=k5)
  PySem.F.excBase_ValueError (mN:=mN) (T.hasType (by decide)) (I.ok.hd b.calm) (by rw[hs];rfl) Rx (sF I hg O.m ⟨rfl,?_⟩ Eu)
 rw[hs]
 refine abq ?_
 refine abf (i3 (ha c_ s σ H _ I h) fun u s1 ⟨y,H1,I1,r1,q1⟩=>abv ?_)
 have hk:=I1.bk
 refine⟨rfl,by show 1≤sizeLine;decide,hk _ _ hC,hN.keeps hk,T.keeps hk,fun h' e hm=>?_⟩
 exact b.xe _ _ (i3 (Fj I1 b.bd hm) fun _ HJ F=>⟨e,C,H1,rfl,F,q1⟩)
end
section
variable{P:Program}{w:World}{K:Qqy}{mg:Qqx}{base:Heap}
theorem xl.ok1{x qual:Str}{st:Stmt}{f:Addr}{fd:FuncData}{N ps:List Str}{k:Nat}{sp:Sp}(F:xl K x qual st f fd)(S:gv N ps (fZ st))(len:∀vs H Q E,sp vs H Q E→vs.length=ps.length)
  (vO:∀(jx:Value)(A:Around)(outer:List Env)(s:Shared)(H:Hp)(vs:List V)(Q:VK)(E:XK),kj k (A.deeper (envOfC qual (fZ st) s.heap.objs.size f jx))→sp vs H Q E→
   ∃t,C5 (v_ (sI P w) P w K mg base N qual (fZ st) f jx A outer s H E) (k8 st) t∧t {nx:=fun _ H'=>Q .jn H',rt:=Q} (start N vs) H):ik P w K mg base (sI P w) (k+1) f fd ps sp:=by
 obtain⟨oc,od,kV,doc,pm,an,jx,ct,H_,rfl,lk,BE⟩:=F.ex
 exact Mg lk BE S len fun A outer s H vs Q E hr Kt=>vO jx A outer s H vs Q E hr Kt
theorem ik.HX{k:Nat}{f:Addr}{fd:FuncData}{ps:List Str}{sp:Sp}(F:ik P w K mg base (sI P w) k f fd ps sp):ik P w K mg base mT k f fd ps (fun vs H Q _=>sp vs H Q E0):=
 ⟨fun vs H Q E h=>F.len vs H Q E0 h,fun A outer s H args us vs Q E hr e0 hb hv hs=>codeAny_mono (F.run A outer s H args us vs Q E0 hr e0 hb hv hs) fun r s' h=>by
  cases r with
  | error e=>obtain⟨_,_,_,_,_,z⟩:=h;exact z
  | ok fl=>cases fl<;>exact h⟩
end
section
variable{X:Cx}
def PF(X:Cx)(k:Nat)(es:List Expr)(t:TE):Prop:=
 ∀(acc:Str)(c_:Qqz)(s:Shared)(σ:St)(H:Hp)(Q:VK),acc.length≤k*1048576→Inv X c_ σ H s→t σ H Q→wpAny (model X.prog X.w) X.A (joinParts acc (evalEach es X.env)) (EP X c_ σ Q) X.xe s
def tFn:TE:=fun _ H Q=>∀x,Q (.str x) H
def tFc(te t:TE):TE:=fun σ H Q=>te σ H fun v H1=>∃y,v=.str y∧y.length≤1048576∧t σ H1 Q
theorem nQ{k:Nat}(hk:k≤8:=by decide):PF X k [] tFn:=fun acc c_ s σ H Q hl I h=>
 joinParts_nil (hsz:=by have:sizeLine=16777216:=rfl;omega) ⟨.str acc,H,I.tok _,⟨_,rfl⟩,h acc⟩
theorem iu{k:Nat}{e:Expr}{es:List Expr}{te t:TE}(he:PE X e te)(hr:PF X (k+1) es t)(hk:k≤7:=by decide)(hs:evalEach (e::es) X.env=eval e X.env::evalEach es X.env:=by rfl):PF X k (e::es) (tFc te t):=by
 intro acc c_ s σ H Q hl I h
 rw[hs]
 refine joinParts_cons (i3 (he c_ s σ H _ I h) fun u s1 ⟨v,H1,I1,r1,y,ev,hy,q⟩=>?_)
 subst ev
 obtain⟨t',rfl⟩:=r1
 have e1:(acc++y).length=acc.length+y.length:=strLen_append ..
 exact⟨by rw[e1];have:sizeLine=16777216:=rfl;omega,hr (acc++y) c_ s1 σ H1 Q (by rw[e1];omega) I1 q⟩
theorem lK{e1 e2:Expr}{es:List Expr}{t:TE}{pos:Pos}(h:PF X 0 (e1::e2::es) t):PE X (.JoinedStr (e1::e2::es) pos) t:=fun c_ s σ H Q I hq=>by
 rw[arm_eval_JoinedStr]
 exact h Str.empty c_ s σ H Q (by decide) I hq
def tFr(te:TE):TE:=fun σ H Q=>te σ H fun v H1=>∃x,v=.str x∧(reprText x).length≤1048576∧Q (.str (reprText x)) H1
theorem mV{e:Expr}{te:TE}{pos:Pos}(he:PE X e te):PE X (.FormattedValue e 114 none pos) (tFr te):=by
 intro c_ s σ H Q I h
 refine wpAny_FormattedValue_repr (i3 (he c_ s σ H _ I h) fun u s1 ⟨v,H1,I1,r1,x,ev,hy,q⟩=>?_)
 subst ev
 obtain⟨t',rfl⟩:=r1
 have hz:(reprText x).length≤sizeLine:=aad hy (by decide)
 refine wpAny_pyReprObj_str (hsz:=hz) ?_
 exact formatField_str (fun Yq tk=>⟨.str (reprText x),H1,I1.tok _,⟨_,rfl⟩,q⟩) hz
end
section
variable{X:Cx}{c_:Qqz}{σ:St}{H:Hp}{s:Shared}{tg:Expr}
def y_(X:Cx)(d:Addr):Prop:=∀o u,X.H₀ d≠some (.mQ o u)
theorem IQ{u:HO}(mu:L9 (some u)):(∀xs,u≠.tup xs)∧(∀o v,u≠.mQ o v)∧(∀ps,u≠.Ko ps)∧∀x,u≠.own x:=by
 cases u<;>first|exact False.elim mu|exact⟨(fun _ z=>nomatch z),(fun _ _ z=>nomatch z),(fun _ z=>nomatch z),(fun _ z=>nomatch z)⟩
theorem Inv.ND{d:Addr}{u:HO}(I:Inv X c_ σ H s)(hd:H d=some u)(mu:L9 (some u)):y_ X d:=fun o v z=>by
 have:=I.base.tV d o v z
 rw[hd] at this
 exact(IQ mu).2.1 o v (aaD this)
theorem Inv.IS{d:Addr}{u v:HO}(I:Inv X c_ σ H s)(hd:H d=some u)(nt:∀xs,u≠.tup xs)(nb:∀ps,u≠.Ko ps)(no:∀x,u≠.own x)(nf:y_ X d)(new:i5 X.prog X.w (upd H d v) s.heap d v):Inv X c_ σ (upd H d v) s:=by
 have ne:∀b,H b=none→b≠d:=fun b e z=>by rw[z,hd] at e;cases e
 refine⟨I.ok,I.os,I.bare,⟨I.base.keep,I.base.slot,fun b o q n hx=>by rw[d_ (ne b (I.base.free b o q n hx))];exact I.base.free b o q n hx,I.base.there,fun b xs q=>?_,fun b o w q=>?_,fun b ps q=>?_⟩,I.loc,I.cell,by rw[d_ (ne _ I.free)];exact I.free,fun x c e=>by rw[d_ (ne _ (I.mB x c e))];exact I.mB x c e,fun p hp=>?_,fun b o e=>?_,I.len⟩
 ·have z:=I.base.qX b xs q
  have:b≠d:=fun y=>by rw[y,hd] at z;exact nt xs (aaD z)
  rw[d_ this];exact z
 ·have z:=I.base.tV b o w q
  have:b≠d:=fun y=>by rw[y] at q;exact nf o w q
  rw[d_ this];exact z
 ·obtain⟨m,z⟩:=I.base.vS b ps q
  have:b≠d:=fun y=>by rw[y,hd] at z;exact nb _ (aaD z)
  exact⟨m,by rw[d_ this];exact z⟩
 ·obtain⟨e1,e2,e3⟩:=I.pin p hp
  exact⟨e1,by rw[d_ (ne _ e2)];exact e2,e3⟩
 ·by_cases hb:b=d
  ·subst hb;rw[b_] at e;cases e;exact new
  ·rw[d_ hb] at e
   refine(I.iH b o e).ye (fun _ _ _ q=>q) (fun c q=>?_) fun c xs q=>?_
   ·have:c≠d:=fun y=>by rw[y,hd] at q;exact no _ (aaD q)
    rw[d_ this];exact q
   ·have:c≠d:=fun y=>by rw[y,hd] at q;exact nt _ (aaD q)
    rw[d_ this];exact q
theorem Inv.frozen{d:Addr}{u:HO}(I:Inv X c_ σ H s)(hd:H d=some u)(mu:L9 (some u)):∃o,s.heap.get? d=some o∧Inv X c_ σ (upd H d (.mQ o u)) s:=by
 obtain⟨o,ho⟩:=(I.iH d u hd).ex
 obtain⟨m1,m2,m3,m4⟩:=IQ mu
 refine⟨o,ho,I.IS hd m1 m3 m4 (I.ND hd mu) ⟨ho,?_⟩⟩
 refine(I.iH d u hd).ye (fun _ _ _ q=>q) (fun c q=>?_) fun c xs q=>?_
 ·have:c≠d:=fun y=>by rw[y,hd] at q;exact m4 _ (aaD q)
  rw[d_ this];exact q
 ·have:c≠d:=fun y=>by rw[y,hd] at q;exact m1 _ (aaD q)
  rw[d_ this];exact q
theorem Inv.wk{d:Addr}{o:Obj}{u:HO}(I:Inv X c_ σ H s)(hd:H d=some (.mQ o u))(nf:y_ X d):Inv X c_ σ (upd H d u) s:=by
 refine I.IS hd (fun _ z=>by cases z) (fun _ z=>by cases z) (fun _ z=>by cases z) nf ?_
 obtain⟨_,q⟩:=(show i5 X.prog X.w H s.heap d (.mQ o u) from I.iH d _ hd)
 refine q.ye (fun _ _ _ q=>q) (fun c q=>?_) fun c xs q=>?_
 ·have:c≠d:=fun y=>by rw[y,hd] at q;cases q
  rw[d_ this];exact q
 ·have:c≠d:=fun y=>by rw[y,hd] at q;cases q
  rw[d_ this];exact q
def Qw(X:Cx)(t:TE):TE:=fun σ H Q=>t σ H fun v H2=>∃d o u,H2 d=some (.mQ o u)∧y_ X d∧Q v (upd H2 d u)
theorem Gr{e:Expr}{t:TE}(h:PE X e t):PE X e (Qw X t):=fun c_ s σ H Q I hq=>
 i3 (h c_ s σ H _ I hq) fun v s' ⟨x,H',I',r,d,o,u,hd,nf,q⟩=>⟨x,_,I'.wk hd nf,r,q⟩
noncomputable def Ends.UQ(X:Cx)(D:Ends):Ends where
 nx:=fun σ H2=>∃d o u,H2 d=some (.mQ o u)∧y_ X d∧D.nx σ (upd H2 d u)
 rt:=fun v H2=>∃d o u,H2 d=some (.mQ o u)∧y_ X d∧D.rt v (upd H2 d u)
 bk:=fun σ H2=>∃d o u,H2 d=some (.mQ o u)∧y_ X d∧D.bk σ (upd H2 d u)
 ct:=fun σ H2=>∃d o u,H2 d=some (.mQ o u)∧y_ X d∧D.ct σ (upd H2 d u)
theorem sJ{st:Stmt}{t:TS}(h:PS X st t):PS X st (fun D σ H=>t (D.UQ X) σ H):=fun c_ s σ H D I hq=>i3 (h c_ s σ H _ I hq) fun f s' q=>by
 cases f with
 | next=>obtain⟨σ',H',I',d,o,u,hd,nf,q⟩:=q;exact⟨σ',_,I'.wk hd nf,q⟩
 | brk=>obtain⟨σ',H',I',d,o,u,hd,nf,q⟩:=q;exact⟨σ',_,I'.wk hd nf,q⟩
 | cont=>obtain⟨σ',H',I',d,o,u,hd,nf,q⟩:=q;exact⟨σ',_,I'.wk hd nf,q⟩
 | ret v=>obtain⟨x,σ',H',I',r,d,o,u,hd,nf,q⟩:=q;exact⟨x,σ',_,I'.wk hd nf,r,q⟩
theorem BW{H:Hp}{d p:Addr}{u f o:HO}(hd:H d=some u)(hp:p≠d):upd (upd (upd H d f) p o) d u=upd H p o:=by
 funext b
 by_cases h1:b=d
 ·subst h1;rw[b_,d_ (abQ hp),hd]
 ·rw[d_ h1]
  by_cases h2:b=p
  ·subst h2;rw[b_,b_]
  ·rw[d_ h2,d_ h2,d_ h1]
theorem sL{H:Hp}{d:Addr}{u f:HO}(hd:H d=some u):upd (upd H d f) d u=H:=by
 rw[KA]
 funext b
 by_cases h1:b=d
 ·subst h1;rw[b_,hd]
 ·rw[d_ h1]
noncomputable def Pq(d:Addr)(o:Obj)(kvs:List (Key×V)):It:=
 ⟨fun i H=>H d=some (.mQ o (.dK kvs))∧i<kvs.length,fun i H x H'=>H'=H∧∃k v,kvs[i]?=some (k,v)∧x=kV k,fun i H=>H d=some (.mQ o (.dK kvs))∧kvs.length≤i⟩
theorem Gs{P:Program}{w:World}{k:Key}{u:Value}(h:(jb P w).is k u=true):RelV (kV k) u:=by
 rcases jt (show yQ k u=true from h) with⟨i,t,rfl,rfl⟩|⟨x,t,rfl,rfl⟩
 ·exact⟨t,rfl⟩
 ·exact⟨t,rfl⟩
theorem IT{P:Program}{w:World}{h:Heap}{d:Addr}{o:Obj}{kvs:List (Key×V)}{es:Array DictEntry}{ep:Nat}(hd:o.data=.dict es ep)(q:i5 P w H h d (.mQ o (.dK kvs))):(d ==sysModules)=false∧kvs.length≤sizeLine∧∃vs,KV kvs vs∧h.DictAt (jb P w) d vs ep:=by
 obtain⟨ho,hz,hs,vs,kv,o',PB,Mu,om,h1,h2,h3⟩:=q
 rw[ho] at om;cases om
 rw[hd] at h2;cases h2
 exact⟨hs,hz,vs,kv,o,es,ho,h1,hd,h3⟩
theorem KV.at{κ:Type}{kvs:List (κ×V)}{vs:List (κ×Value)}(r:KV kvs vs):∀{i:Nat} {k:κ} {u:Value},vs[i]?=some (k,u)→∃v,kvs[i]?=some (k,v)∧RelV v u:=by
 induction r with
 | nil=>intro i k u e;simp at e
 | cons f t ih=>
  intro i k u e
  cases i with
  | zero=>
   simp at e
   subst e
   exact⟨_,aa5 some (Prod.ext f.1 rfl),f.2⟩
  | succ i=>
   obtain⟨v,h1,h2⟩:=ih (by simpa using e)
   exact⟨v,by simpa using h1,h2⟩
theorem Hc{P:Program}{w:World}{K:Qqy}(d it:Addr)(o:Obj)(es:Array DictEntry)(ep:Nat)(kvs:List (Key×V))(J6:o.data=.dict es ep):Turn P w K tg (Pq d o kvs) [it] it (fun i h=>h.IsKeyIter it d i kvs.length ep) where
 mem:=by simp
 obj:=fun i h st b hb=>by
  have e:b=it:=by simpa using hb
  subst e
  obtain⟨o,e,c,d⟩:=st
  exact⟨o,e,fun v z=>by rw[d] at z;cases z⟩
 keep:=fun i h h' st k=>st.at fun o e=>k it (by simp) o e
 item:=by
  intro X hP hw hK hc i c_ s σ H E I hf st hg
  subst hP hw hK
  obtain⟨hd,hi⟩:=hg
  obtain⟨_,_,vs,kv,da⟩:=IT J6 (I.iH d _ hd)
  have hl:kvs.length=vs.length:=kv.length
  have AW:i<vs.length:=by omega
  obtain⟨⟨k,u⟩,hx⟩:∃p,vs[i]?=some p:=⟨vs[i],by simp[AW]⟩
  obtain⟨v,hv,_⟩:=kv.at hx
  obtain⟨f0,f1,f2,f3,f4,f5⟩:=hf it (by simp)
  rw[hl] at st
  refine wpAny_pyNext_dict_item st da hx fun key h' OH yP sb=>?_
  have I1:Inv X c_ σ H {s with heap:=h'}:=I.turned (t':=s.toks) (fun b o hb e=>(sb.2 b hb).trans e) f0 f1 f3 f4 f5
  obtain⟨o',e,c,dd⟩:=id yP
  exact⟨key,rfl,xc (s:={s with heap:=h'}) e c dd (by decide) ⟨kV k,H,I1,Gs OH,⟨rfl,k,v,hv,rfl⟩,by rw[hl];exact yP,fun b hb=>(hf b hb).1⟩⟩
 done:=by
  intro X hP hw hK hc i c_ s σ H E I hf st hg
  subst hP hw hK
  obtain⟨hd,hi⟩:=hg
  obtain⟨_,_,vs,kv,da⟩:=IT J6 (I.iH d _ hd)
  have hl:kvs.length=vs.length:=kv.length
  obtain⟨f0,f1,f2,f3,f4,f5⟩:=hf it (by simp)
  rw[hl] at st
  exact wpAny_pyNext_dict_end (I.ok.hd hc) st da (by simp;omega) fun h' eb=>⟨rfl,I.turned (t':=s.toks) (fun b o hb e=>eb b o hb e) f0 f1 f3 f4 f5⟩
 self:=fun _ _ _ _ _ st h=>wpAny_pyIter_keyiter st h
def Qx(X:Cx)(td:TE):TI:=fun σ H R=>td σ H fun x H1=>∃d kvs,x=.ref d∧H1 d=some (.dK kvs)∧∀o,y_ X d→R (Pq d o kvs) (upd H1 d (.mQ o (.dK kvs)))
theorem uT{l:Expr}{td:TE}(hl:PE X l td):PI X tg l (Qx X td):=by
 intro c_ s σ H R I h
 refine i3 (hl c_ s σ H _ I h) fun v s1 ⟨x,H1,I1,r1,q1⟩=>?_
 obtain⟨d,kvs,e,hd,q⟩:=q1
 subst e
 cases r1
 have nf:=I1.ND hd True.intro
 obtain⟨o,ho,I2⟩:=I1.frozen hd True.intro
 obtain⟨_,hs,vs,kv,o',es,ep,om,h1,h2,h3⟩:=(show i5 X.prog X.w H1 s1.heap d (.dK kvs) from I1.iH d _ hd)
 rw[ho] at om;cases om
 refine wpAny_pyIter_dict (kvs:=vs) (ep:=ep) hs ⟨o,es,ho,h1,h2,h3⟩ ?_
 refine⟨s1.heap.objs.size,[s1.heap.objs.size],_,_,_,rfl,I2.kept (t':=s1.toks) fun b o e=>aac _ e,Hc d _ o es ep kvs h2,⟨_,aaz _ rfl,rfl,by rw[kv.length];rfl⟩,fun b hb=>?_,q o nf⟩
 have e:b=s1.heap.objs.size:=by simpa using hb
 subst e
 exact I2.yf (U0 _) (I2.iH.fresh (U0 _))
theorem za{d:Addr}{o:Obj}{kvs:List (Key×V)}{g:TG}{tb:TS}{D:Ends}{σ:St}{H:Hp}(Pv:Nat→St→Hp→Prop)(h0:Pv 0 σ H)(hl:∀i σ H,Pv i σ H→H d=some (.mQ o (.dK kvs)))
  (hs:∀i k v σ H,kvs[i]?=some (k,v)→Pv i σ H→g (kV k) σ H fun σ2 H2=>tb {D with nx:=Pv (i+1),ct:=Pv (i+1),bk:=D.nx} σ2 H2) (hd:∀σ H,Pv kvs.length σ H→D.nx σ H) :
  ∃W:Nat→Nat→St→Hp→Prop,(∃m,W 0 m σ H)∧∀i m σ H,W i m σ H→
   ((Pq d o kvs).stop i H∧D.nx σ H)∨((Pq d o kvs).go i H∧∃N:St→Hp→Prop,(∀σ' H',N σ' H'→∃m',m'<m∧W (i+1) m' σ' H')∧∀x H',(Pq d o kvs).Ij i H x H'→g x σ H' fun σ2 H2=>tb {D with nx:=N,ct:=N,bk:=D.nx} σ2 H2):=by
 refine⟨fun i m σ H=>m=kvs.length-i∧i≤kvs.length∧Pv i σ H,⟨kvs.length,by simp,aaK _,h0⟩,?_⟩
 rintro i m σ H ⟨rfl,hi,p⟩
 have q:=hl i σ H p
 by_cases lq:i<kvs.length
 ·refine .inr ⟨⟨q,lq⟩,Pv (i+1),fun σ' H' p'=>⟨kvs.length-(i+1),by omega,rfl,lq,p'⟩,fun x H' y=>?_⟩
  obtain⟨e,k,v,y,rfl⟩:=y
  subst e
  exact hs i k v σ _ y p
 ·have e:i=kvs.length:=by omega
  subst e
  exact .inl ⟨⟨q,U0 _⟩,hd σ H p⟩
theorem Gu{d:Addr}{o:Obj}{kvs:List (Key×V)}{g:TG}{tt:TT}{te:TE}{Q:List V→Hp→Prop}{σ:St}{H:Hp}(hn:kvs.length≤sizeLine)(Pv:Nat→List V→St→Hp→Prop)(h0:Pv 0 [] σ H)(hl:∀i ys σ H,Pv i ys σ H→H d=some (.mQ o (.dK kvs))∧ys.length≤i)
  (hs:∀i k v ys σ H,kvs[i]?=some (k,v)→Pv i ys σ H→g (kV k) σ H fun σ2 H2=>tt σ2 H2 fun b H3=>if b=true then te σ2 H3 fun v H4=>Pv (i+1) (ys++[v]) σ2 H4 else Pv (i+1) ys σ2 H3)
  (hd:∀ys σ H,Pv kvs.length ys σ H→Q ys H):Fi g tt te (Pq d o kvs) Q σ H:=by
 refine⟨fun i m ys σ H=>m=kvs.length-i∧i≤kvs.length∧Pv i ys σ H,⟨kvs.length,by simp,aaK _,h0⟩,?_⟩
 rintro i m ys σ H ⟨rfl,hi,p⟩
 obtain⟨q,hy⟩:=hl i ys σ H p
 by_cases lq:i<kvs.length
 ·refine .inr ⟨⟨q,lq⟩,by omega,Pv (i+1),fun ON σ' H' p'=>⟨kvs.length-(i+1),by omega,rfl,lq,p'⟩,fun x H' y=>?_⟩
  obtain⟨e,k,v,y,rfl⟩:=y
  subst e
  exact hs i k v ys σ _ y p
 ·have e:i=kvs.length:=by omega
  subst e
  exact .inl ⟨⟨q,U0 _⟩,by omega,hd ys σ H p⟩
theorem pA{α β:Type}{F:α→β→Prop}:∀{xs:List α} {ys:List β},xs.length=ys.length→(∀(i:Nat) a b,xs[i]?=some a→ys[i]?=some b→F a b)→Paired F xs ys
 | [],[],_,_=>.nil
 | [],_::_,e,_=>by simp at e
 | _::_,[],e,_=>by simp at e
 | x::xs,y::ys,e,h=>.cons (h 0 x y rfl rfl) (pA (by simpa using e) fun i a b ha hb=>h (i+1) a b (by simpa using ha) (by simpa using hb))
theorem zb(hc:X.calm=true):uK X (.type "list") (fun xs H Q=>∃d kvs,xs=[V.ref d]∧H d=some (.dK kvs)∧∀p,H p=none→Q (.ref p) (upd H p (.lst (kvs.map fun kv=>kV kv.1)))):=by
 intro c_ s σ H xs us Q I r h
 obtain⟨d,kvs,rfl,hd,q⟩:=h
 obtain⟨u,rfl,ru⟩:=vals1 r
 cases (show u=Value.ref d from ru)
 obtain⟨hz,hs,vs,kv,o,es,ep,ho,h1,h2,h3⟩:=(show i5 X.prog X.w H s.heap d (.dK kvs) from I.iH d _ hd)
 have hl:kvs.length=vs.length:=kv.length
 refine W.kdl_call (W.kdl_dict (knd:=jb X.prog X.w) (kvs:=vs) (ep:=ep) hs) (I.ok.hd hc) ⟨o,es,ho,h1,h2,h3⟩ (by omega) fun h' tk acc c hk hS vP=>?_
 have hf:H s.heap.objs.size=none:=I.iH.fresh (U0 _)
 have rel:Vals (kvs.map fun kv=>kV kv.1) acc.toList:=by
  refine pA (by rw[RK];have:acc.toList.length=acc.size:=aa9;rw[this,vP.1];exact hl) fun i a b ha hb=>?_
  obtain⟨k,x,Ry,hi⟩:=vP.2 i b (by rw[←aa8];exact hb)
  obtain⟨v,hv,_⟩:=kv.at Ry
  rw[aak,hv] at ha
  cases ha
  exact Gs hi
 refine⟨.ref s.heap.objs.size,upd H s.heap.objs.size (.lst (kvs.map fun kv=>kV kv.1)),I.laid (t':=tk) hk (U0 _) ?_,rfl,q _ hf⟩
 exact⟨by rw[RK];exact hz,acc.toList,c,rel,by rw[Array.toArray_toList];exact hS⟩
end
def zc(CX:E4)(X:Cx)(σ₀:St)(E:XK):Prop:=∀(c_:Qqz)(H:Hp)(s:Shared)(e:Value)(s':Shared),Inv X c_ σ₀ H s→CX X.stack H s E e s'→X.xe e s'
def tAt(σ₀:St)(t:TE):TE:=fun σ H Q=>σ=σ₀∧t σ H Q
section
variable{X:Cx}{CX:E4}{k:Nat}{f C:Addr}{fd:FuncData}{ps:List Str}{sp:Sp}{uG:List V}{ds:List Value}{E:XK}{x m:Str}{p pos apos:Pos}{e o:Expr}{es:List Expr}{ta:TE}{t:TA}{σ₀:St}
theorem NF{c_:Qqz}{H:Hp}{s:Shared}{Q:VK}{us:List Value}{vs:List V}(F:ik X.prog X.w X.K X.mg X.base CX k f fd ps sp)(hr:kj k X.A)(hb:Binds X.K fd ps ds)(hd:Vals uG ds)(hx:zc CX X σ₀ E)
  (I:Inv X c_ σ₀ H s) (r:Vals vs us) (h:sp (vs++uG) H Q E):wpAny (model X.prog X.w) X.A (call (.ref f) us) (EP X c_ σ₀ Q) X.xe s:=by
 have r2:Vals (vs++uG) (us++ds):=r.append hd
 have hl:(us++ds).length=ps.length:=by rw[←r2.length];exact F.len _ _ _ _ h
 refine wpAny_call (codeAny_mono (F.run X.A X.stack s H ⟨us,[]⟩ (us++ds) (vs++uG) Q E hr I.Nc (hb s us I.uH hl) r2 h) fun r s' hq=>?_)
 cases r with
 | error e=>exact hx c_ H s e s' I hq
 | ok fl=>
  cases fl with
  | ret u=>exact I.after hq
  | next=>exact False.elim hq
  | brk=>exact False.elim hq
  | cont=>exact False.elim hq
theorem Dz{pl:Sem Bool}(he:PE X o ta)(c:Dh X.K C)(hm:Meth X.K C m f)(F:ik X.prog X.w X.K X.mg X.base CX k f fd ps sp)(hr:kj k X.A)(hb:Binds X.K fd ps ds)(hd:Vals uG ds)(hx:zc CX X σ₀ E)(ha:PA X (e::es) t)
  (yt:starEach (e::es) X.env=(false,eval e X.env)::starEach es X.env:=by rfl) (o3:(backTo pos (starEach es X.env)).any (·.1)=false:=by rfl)
  (ht:eval (.Call (.Attribute o m apos) (e::es) [] pos) X.env=(do
   let ov ←eval o X.env
   standAt apos.atName
   let (f,first) ←holding [ov] (getMethod ov m pl)
   callWith pos f first (backTo pos (starEach (e::es) X.env)) (backToKw pos (keywordEach [] X.env))):=by rfl) :
  PE X (.Call (.Attribute o m apos) (e::es) [] pos) (tAt σ₀ (Di C m sp uG E ta t)):=by
 intro c_ s σ H Q I h
 obtain⟨rfl,h⟩:=h
 refine W.methodCall_KW (pl:=pl) (i3 (he c_ s σ H _ I h) fun u s1 ⟨x,H1,I1,rx,a,dx,fs,ex,ea,l,q⟩=>?_) ht
 subst ex
 obtain rfl:u=Value.ref a:=rx
 refine tZ I1 ea c hm l ?_
 refine W.callWith_K (first:=[.ref a]) (h₀:=X.base) I.ok.mod.MW hm.kp (i3 (ha pos c_ s1 σ H1 _ I1 q) fun us s2 ⟨vs,H2,I2,r,q2⟩=>⟨I2.uH,?_⟩) yt o3
 exact NF (us:=.ref a::us) (vs:=.ref a::vs) F hr hb hd hx I2 (.cons rfl r) q2
end
noncomputable abbrev Cx.tw(X:Cx)(pn:Qqz)(E':Qqq):Cx:={X with pn:=pn,xe:=E'}
noncomputable abbrev Cx.hand(X:Cx)(e:Addr):Cx:={X with A:=X.A.mark (some (.ref e)),calm:=false,xe:=fun _ _=>False}
theorem Cx.Ok.tw{X:Cx}(ok:X.Ok)(pn:Qqz)(E:Qqq):(X.tw pn E).Ok:=
 ⟨ok.mod,ok.kind,ok.glob,ok.blt,ok.above,ok.inj,ok.has,ok.L_,ok.hd,ok.frames,ok.MX,ok.P7,ok.bs,ok.Ie,ok.qZ,ok.ET,ok.sW,ok.Kq⟩
theorem Cx.Ok.hand{X:Cx}(ok:X.Ok)(e:Addr):(X.hand e).Ok:=
 ⟨ok.mod,ok.kind,ok.glob,ok.blt,ok.above,ok.inj,ok.has,ok.L_,(fun z=>nomatch z),ok.frames,ok.MX,ok.P7,ok.bs,ok.Ie,ok.qZ,ok.ET,ok.sW,ok.Kq⟩
section
variable{X:Cx}{c_ pn:Qqz}{σ:St}{H:Hp}{s:Shared}{E:Qqq}{e:Addr}
theorem Inv.tw(I:Inv X c_ σ H s)(E:Qqq):Inv (X.tw (X.pn++c_) E) [] σ H s:=
 ⟨I.ok.tw _ E,I.os,I.bare,I.base,I.loc,I.cell,I.free,I.mB,fun p hp=>I.pin p (by simpa using hp),I.iH,I.len⟩
theorem Inv.p6{pl:Qqz}(ok:X.Ok)(I:Inv (X.tw (X.pn++c_) E) pl σ H s):Inv X c_ σ H s:=
 ⟨ok,I.os,I.bare,I.base,I.loc,I.cell,I.free,I.mB,fun p hp=>I.pin p (aat _ hp),I.iH,I.len⟩
theorem Inv.hand(I:Inv X c_ σ H s)(e:Addr):Inv (X.hand e) c_ σ H s:=
 ⟨I.ok.hand e,I.os,I.bare,I.base,I.loc,I.cell,I.free,I.mB,I.pin,I.iH,I.len⟩
theorem Inv.wo(ok:X.Ok)(I:Inv (X.hand e) c_ σ H s):Inv X c_ σ H s:=
 ⟨ok,I.os,I.bare,I.base,I.loc,I.cell,I.free,I.mB,I.pin,I.iH,I.len⟩
theorem SP.p6{D:Ends}{f:Flow}{s':Shared}{pl:Qqz}(ok:X.Ok)(h:SP (X.tw (X.pn++c_) E) pl D f s'):SP X c_ D f s':=by
 cases f with
 | next=>obtain⟨σ',H',I,q⟩:=h;exact⟨σ',H',I.p6 ok,q⟩
 | brk=>obtain⟨σ',H',I,q⟩:=h;exact⟨σ',H',I.p6 ok,q⟩
 | cont=>obtain⟨σ',H',I,q⟩:=h;exact⟨σ',H',I.p6 ok,q⟩
 | ret u=>obtain⟨v,σ',H',I,r,q⟩:=h;exact⟨v,σ',H',I.p6 ok,r,q⟩
theorem SP.wo{D:Ends}{f:Flow}{s':Shared}(ok:X.Ok)(h:SP (X.hand e) c_ D f s'):SP X c_ D f s':=by
 cases f with
 | next=>obtain⟨σ',H',I,q⟩:=h;exact⟨σ',H',I.wo ok,q⟩
 | brk=>obtain⟨σ',H',I,q⟩:=h;exact⟨σ',H',I.wo ok,q⟩
 | cont=>obtain⟨σ',H',I,q⟩:=h;exact⟨σ',H',I.wo ok,q⟩
 | ret u=>obtain⟨v,σ',H',I,r,q⟩:=h;exact⟨v,σ',H',I.wo ok,r,q⟩
end
theorem NG{P:Program}{w:World}{st:List Env}{H H':Hp}{s s':Shared}{e C:Addr}(F:Pp P w st H H' s s' e C)(Rz:∀b∈qY st,H b=none∧∃o,s.heap.get? b=some o){B h6:Heap}{t:Addr}(fl:Heap.FlyingW B st e (.ref C) (.ref t) s'.heap)
  (hB:∀b o,s'.heap.get? b=some o→b∉qY st→((∃u,H' b=some u)∨∃o',s.heap.get? b=some o')→B.get? b=some o) (RA:B.StaysIn h6) (up:s'.heap.UpToSlots h6) :
  Un (qY st) [] H H' s.heap h6∧qJ P w H' h6:=by
 have GR:∀b u,H' b=some u→b∉qY st:=fun b u hu hb=>by
  obtain⟨n,o,ho⟩:=Rz b hb
  rw[F.un.free b o ho n (by simp)] at hu;cases hu
 have vQ:∀b o u,s'.heap.get? b=some o→H' b=some u→h6.get? b=some o:=fun b o u ho hu=>RA b o (hB b o ho (GR b u hu) (.inl ⟨u,hu⟩))
 refine⟨⟨fun b o q n hb hx=>RA b o (hB b o (F.un.keep b o q n hb hx) hb (.inr ⟨o,q⟩)),fun b o q n hb hx=>?_,F.un.free,fun b o q hx=>?_,F.un.qX,F.un.tV,F.un.vS⟩,fun a u ha=>?_⟩
 ·obtain⟨sl,q1⟩:=F.un.slot b o q n hb hx
  obtain⟨_,o',om,hd⟩:=fl.2.2.1.mem hb
  rw[q1] at om;cases om
  obtain⟨HW,q2⟩:=up b _ q1 hd
  exact⟨HW,q2⟩
 ·obtain⟨o2,q2⟩:=F.un.there b o q hx
  by_cases hb:b∈qY st
  ·obtain⟨_,o',om,hd⟩:=fl.2.2.1.mem hb
   rw[q2] at om;cases om
   obtain⟨EK,q3⟩:=up b _ q2 hd
   exact⟨_,q3⟩
  ·exact⟨o2,RA b o2 (hB b o2 q2 hb (.inr ⟨o,q⟩))⟩
 ·refine(F.iH a u ha).ye (fun b v hb q=>?_) (fun _ z=>z) fun _ _ z=>z
  rcases hb with z|z
  ·rw[z] at q ⊢;exact vQ a v u q ha
  ·exact vQ b v _ q z
noncomputable def Fl(K:Qqy)(C D:Addr):Bool:=W.excIn K C [.type "ValueError",.type "Exception",.type "BaseException",.type "object"] "ValueError.__new__"&&W.excIn K D [.type "ValueError",.type "Exception",.type "BaseException",.type "object"] "ValueError.__new__"&&
 match K.lookup C with
 | some ⟨_,_,.cls cd,_⟩=>cd.mro.contains (.ref D)
 | _=>false
theorem DA{M:Model}{A:Around}{E:Qqq}{K:Qqy}{s:Shared}{e C D:Addr}{oe:Obj}{Q:Bool→Shared→Prop}(X:K.In s.heap)(q:Fl K C D=true)(he:s.heap.get? e=some oe)(hc:oe.cls=.ref C)(h:Q true s) :
  wpAny M A (excMatches (.ref e) (.ref D)) Q E s:=by
 unfold Fl at q
 rw[aaZ,aaZ] at q
 obtain⟨⟨q1,q2⟩,q3⟩:=q
 obtain⟨bm,N,nm,qn,bs,hdct,sn,sub,ab,col,dd,k0,k1,k2,k3,k5,mN,hC,hN,Rx,T⟩:=BV X q1
 obtain⟨bm2,N2,nm2,qn2,bs2,hdct2,sn2,sub2,ab2,col2,Tf,k02,k12,k22,k32,k52,mN2,hD,hN2,hni2,T2⟩:=BV X q2
 have hm:(Value.ref C::bm).contains (.ref D)=true:=by
  split at q3
  ·rename_i c d cd sl ho
   have z:=X _ _ ho
   rw[hC] at z
   cases z
   exact q3
  ·cases q3
 have hcB:(Value.ref D::bm2).contains (.type "BaseException")=true:=by rw[List.contains_cons,T2.hasType (b:=true) (by decide),Bool.or_true]
 have f:=tc_notTuple
 obtain⟨hh,g,d,tk,os⟩:=s
 unfold excMatches
 repeat (first|(with_reducible refine wpAny_loadPart_at he ?_;rw[hc])|with_reducible refine wpAny_loadPart_at hD ?_|(with_reducible refine wpAny_isSubtype_exc hD ?_;rw[hcB])|(with_reducible refine wpAny_isSubtype_exc hC ?_;rw[hm])|wp_step)
 exact h
def UR(K:Qqy)(D0:Addr)(tb:St→XK→TS)(ts:TS):TS:=fun D σ H=>tb σ (fun cls _ H'=>∃C,cls=.ref C∧Fl K C D0=true∧ts D σ H') D σ H
theorem IU{X:Cx}{D0:Addr}{x:Str}{body My:List Stmt}{b₀:Stmt}{np RB pos:Pos}{tb:St→XK→TS}{ts:TS}(bd:Bd X)(hm:X.mg x=some (.ref D0))(hg:Gl X x)
  (hb:∀(σ₀:St)(pn:Qqz)(E':Qqq)(EX:XK),zc (sI X.prog X.w) (X.tw pn E') σ₀ EX→C5 (X.tw pn E') body (tb σ₀ EX))
  (hs:∀e,C5 (X.hand e) (b₀::My) ts) (Eu:(x ==("__debug__":Str))=false:=by decide) :
  PS X (.Try body [.ExceptHandler (some (.Name x np)) none (b₀::My) RB] [] [] pos) (UR X.K D0 tb ts):=by
 intro c_ s σ H D I h
 refine wpAny_Try_except ?_
 refine i3 (hb σ (X.pn++c_) _ _ ?_ [] s σ H D (I.tw _) h) fun f s1 q=>?_
 ·intro pl H1 s1 ev s' I1 hcx
  obtain⟨e,C,H',he,F,C',hC',yu,hts⟩:=hcx
  subst he
  cases hC'
  obtain⟨B,t,fl,hB⟩:=F.fl
  have Rv:Heap.FlyingW B X.stack e (.ref C) (.ref t) s'.heap:=fl
  rw[bd.stack] at Rv
  have Rz:∀b∈qY X.stack,H1 b=none∧∃o,s1.heap.get? b=some o:=fun b hb=>by
   obtain⟨_,o,ho,_⟩:=I1.stack.mem hb
   exact⟨I1.yC b hb,o,ho⟩
  refine wpAny_looks_onW (by rw[I.ok.frames,bd.stack]) bd.frame Rv fun h4 RC Ys=>?_
  refine wpAny_landsW RC fun h5 Vv Yt=>?_
  have go:∀h6,B.StaysIn h6→s'.heap.UpToSlots h6→Inv X c_ σ H' {s' with heap:=h6}:=fun h6 RA Vw=>by
   obtain⟨un6,Vx⟩:=NG F Rz fl hB RA Vw
   exact(I1.Ma (s':={s' with heap:=h6}) (ch:=[]) F.os un6 Vx F.bare (fun _ z=>nomatch z)).p6 I.ok
  have I5:=go h5 Vv.1 (Ys.trans Yt)
  obtain⟨ob,Rn,Vy⟩:=Vv.there
  refine wpAny_handleBy_cons (codeAny_handlers_test (sF (I5.hand e) hg hm ?_ Eu)) (by intro q;cases q)
  refine DA I5.uH yu Rn Vy (codeAny_handlers_suite ?_)
  refine lands_againW Vv fun h6 fl6 Vw=>?_
  have I6:=go h6 fl6.1 ((Ys.trans Yt).trans Vw)
  exact abp (hs e c_ _ σ H' D (I6.hand e) hts) (fun f s7 q=>q.wo I.ok) fun _ _ z=>z.elim
 ·have q:=q.p6 I.ok
  cases f with
  | next=>exact wpAny_execs_nil q
  | ret v=>exact q
  | brk=>exact q
  | cont=>exact q
section
variable{X:Cx}{c_:Qqz}{σ:St}{H:Hp}{s:Shared}{M:Model}{A:Around}{E:Qqq}
end
section
variable{P:Program}{w:World}{K:Qqy}{mg:Qqx}{base:Heap}
end
section
variable{X:Cx}{k:Nat}{f:Addr}{fd:FuncData}{ps:List Str}{sp:Sp}{x:Str}{p pos:Pos}{e:Expr}{es:List Expr}{t:TA}
end
open PySem PySem.Spec PyProof.Rows PySem.W PySem.Builtin PySem.Builtin.ObjectAttr PySem.Builtin.Getset_descriptor
structure UT(K:Qqy)(C:Addr):Prop where
 ga:W.findIn K (.ref C) "__getattribute__"=some (some (.builtin "BaseException.__getattribute__"))
 gt:W.findIn K (.ref C) "__getattr__"=some none
 cl:W.findIn K (.ref C) "__class__"=some (some (.builtin "object.__class__"))
 ob:W.mroIn K C (.type "object")=some true
 be:W.mroIn K C (.type "BaseException")=some true
 cs:(W.clsIn K C).isSome=true
section
variable{K:Qqy}{e C:Addr}{prog:Program}{w:World}{A:Around}{E:Qqq}{h:Heap}{g:Array GenState}{d:Drawn}{t:Nat}{os:OsState}
end
theorem jQ{xs:List V}(h:xs.length≤15:=by simp):xs.length≤sizeLine:=aad h (by decide)
theorem iF{α:Type}{xs:List α}{i:Int}{j:Nat}{v:α}(e:i=(j:Int))(h:xs[j]?=some v):E9 xs i=some v:=by subst e;exact KN h
theorem BX{n:Nat}{i:Int}{j:Nat}(e:i=(j:Int))(h:j<n):Iv n i=some j:=by
 subst e
 unfold Iv
 rw[aas (by omega),aas (by omega)]
 simp
theorem gg.upd{H H':Hp}{p:Addr}{o:HO}(s:gg H H')(h:H p=none):gg H (L2.upd H' p o):=fun b u e=>by rw[d_ (gb e h)];exact s b u e
theorem gg.new{H H':Hp}{p:Addr}{o:HO}(s:gg H H')(h:H' p=none):gg H (L2.upd H' p o):=s.upd (s.free h)
def UU(t:TS):TS:=fun D σ H=>∃J:St→Hp→Prop,t {D with nx:=J} σ H∧∀σ' H',J σ' H'→D.nx σ' H'
theorem SP.nx{X:Cx}{c_:Qqz}{D:Ends}{J:St→Hp→Prop}{f:Flow}{s:Shared}(hJ:∀σ' H',J σ' H'→D.nx σ' H')(h:SP X c_ {D with nx:=J} f s):SP X c_ D f s:=by
 cases f with
 | next=>obtain⟨σ,H,I,q⟩:=h;exact⟨σ,H,I,hJ _ _ q⟩
 | brk=>exact h
 | cont=>exact h
 | ret u=>exact h
theorem ua{X:Cx}{st:Stmt}{t:TS}(h:PS X st t):PS X st (UU t):=fun c_ s σ H D I ⟨J,h1,h2⟩=>i3 (h c_ s σ H _ I h1) fun f s' q=>SP.nx h2 q
theorem rh{α:Type}{xs:List α}{i:Int}(h0:0≤i)(h:i<(xs.length:Int)):∃v,E9 xs i=some v∧xs[i.toNat]?=some v:=by
 have hi:i.toNat<xs.length:=by omega
 exact⟨xs[i.toNat],iF (j:=i.toNat) (by omega) (VN hi),VN hi⟩
theorem DB{b:Bool}{A B:Prop}(e:b=false)(h:B):if b=true then A else B:=by subst e;exact kA h
theorem DC{b:Bool}{A B:Prop}(e:b=true)(h:A):if b=true then A else B:=by subst e;exact mG h
theorem mod_lt(a b:Int)(h:0<b):0≤a%b∧a%b<b:=⟨Int.emod_nonneg a (by omega),Int.emod_lt_of_pos a h⟩
noncomputable abbrev gh(l:List Str):List V:=l.map V.str
theorem iK(xs:List Str)(x:Str):gh xs++[V.str x]=gh (xs++[x]):=by unfold gh;rw[aau];rfl
theorem lL(x y:List Str):gh x++gh y=gh (x++y):=by unfold gh;rw[aau]
theorem oF{l:List Str}{j:Nat}{x:Str}(h:l[j]?=some x):(gh l)[j]?=some (V.str x):=by rw[aak,h];rfl
theorem jR{l:List Str}{j:Nat}{v:V}(h:(gh l)[j]?=some v):∃x,l[j]?=some x∧v=V.str x:=by
 rw[aak] at h
 cases e:l[j]? with
 | none=>rw[e] at h;cases h
 | some x=>rw[e] at h;cases h;exact⟨x,rfl,rfl⟩
theorem UW{A:Around}{k:Nat}(hr:kj k A){n:Nat}(h:n≤60:=by decide):A.units+n+1<cLine:=by have:=hr.units;omega
theorem ix{H:Hp}{a q:Addr}{o u:HO}(hq:H q=none)(h:H a=some o):upd H q u a=some o:=by rw[d_ (gb h hq)];exact h
theorem HW{t0 t1:TS}{D:Ends}{σ:St}{H:Hp}(h:let v1:=t1;iW t0 v1 D σ H):iW t0 t1 D σ H:=h
theorem EK{t0 t1 t2:TS}{D:Ends}{σ:St}{H:Hp}(h:let v2:=t2;let v1:=iW t1 v2;iW t0 v1 D σ H):iW t0 (iW t1 t2) D σ H:=h
theorem K3{t0 t1 t2 t3:TS}{D:Ends}{σ:St}{H:Hp}(h:let v3:=t3;let v2:=iW t2 v3;let v1:=iW t1 v2;iW t0 v1 D σ H):iW t0 (iW t1 (iW t2 t3)) D σ H:=h
theorem NH{t0 t1 t2 t3 t4:TS}{D:Ends}{σ:St}{H:Hp}(h:let v4:=t4;let v3:=iW t3 v4;let v2:=iW t2 v3;let v1:=iW t1 v2;iW t0 v1 D σ H):iW t0 (iW t1 (iW t2 (iW t3 t4))) D σ H:=h
theorem Qy{t0 t1 t2 t3 t4 t5:TS}{D:Ends}{σ:St}{H:Hp}(h:let v5:=t5;let v4:=iW t4 v5;let v3:=iW t3 v4;let v2:=iW t2 v3;let v1:=iW t1 v2;iW t0 v1 D σ H):iW t0 (iW t1 (iW t2 (iW t3 (iW t4 t5)))) D σ H:=h
theorem S5{t0 t1 t2 t3 t4 t5 t6:TS}{D:Ends}{σ:St}{H:Hp}(h:let v6:=t6;let v5:=iW t5 v6;let v4:=iW t4 v5;let v3:=iW t3 v4;let v2:=iW t2 v3;let v1:=iW t1 v2;iW t0 v1 D σ H):iW t0 (iW t1 (iW t2 (iW t3 (iW t4 (iW t5 t6))))) D σ H:=h
theorem sl9{t0 t1 t2 t3 t4 t5 t6 t7 t8:TS}{D:Ends}{σ:St}{H:Hp}(h:let v8:=t8;let v7:=iW t7 v8;let v6:=iW t6 v7;let v5:=iW t5 v6;let v4:=iW t4 v5;let v3:=iW t3 v4;let v2:=iW t2 v3;let v1:=iW t1 v2;iW t0 v1 D σ H):iW t0 (iW t1 (iW t2 (iW t3 (iW t4 (iW t5 (iW t6 (iW t7 t8))))))) D σ H:=h
theorem IV{w:TI}{g:TG}{b u:TS}{D:Ends}{σ:St}{H:Hp}(h:let v:=b;iW (Ik w g v) u D σ H):iW (Ik w g b) u D σ H:=h
theorem UX{w:TI}{g:TG}{b:TS}{D:Ends}{σ:St}{H:Hp}(h:let v:=b;Ik w g v D σ H):Ik w g b D σ H:=h
noncomputable abbrev rr(a:Addr):Option V:=some (.ref a)
noncomputable abbrev rs(x:Str):Option V:=some (.str x)
noncomputable abbrev ri(i:Int):Option V:=some (.int i)
section
variable{X:Cx}{tg:Expr}
noncomputable def Pr(x:Str):It:=⟨fun i _=>i<x.length,fun i H v H'=>H'=H∧∃c,x.cps[i]?=some c∧v=.str ⟨#[c]⟩,fun i _=>i=x.length⟩
theorem Bg{P:Program}{w:World}{K:PySem.W.Frag}(it:Addr)(ty:String)(x:Str)(t:Tok)(Rg:["enumerate","zip","dict_itemiterator","dict_reverseitemiterator","odict_iterator","itertools.zip_longest","itertools.pairwise"].contains ty=false)
  (W:∀A:Around,A.handled=none→Walks P w A it [it] [it] x.cps.size (SignAt x) (fun i h=>h.IsStrIter it ty x t i))
  (self:∀(A:Around)(i:Nat)(s:Shared)(Q:Qqq)(E:Qqq),s.heap.IsStrIter it ty x t i→Q (.ref it) s→wpAny (model P w) A (pyIter (.ref it)) Q E s):Turn P w K tg (Pr x) [it] it (fun i h=>h.IsStrIter it ty x t i) where
 mem:=by simp
 obj:=fun i h st b hb=>by
  have e:b=it:=by simpa using hb
  subst e
  obtain⟨o,e,c,d⟩:=st
  exact⟨o,e,fun v z=>by rw[d] at z;cases z⟩
 keep:=fun i h h' ⟨o,ho,r⟩ k=>⟨o,k it (by simp) o ho,r⟩
 item:=by
  intro X hP hw hK hc i c_ s σ H E I hf st hg
  subst hP hw hK
  obtain⟨f0,f1,f2,f3,f4,f5⟩:=hf it (by simp)
  refine(W X.A (I.ok.hd hc)).item i s _ _ hg st fun v h' tk hv yP kk=>?_
  obtain⟨c,t',BD,rfl⟩:=hv
  have I1:Inv X c_ σ H {s with heap:=h',toks:=tk}:=I.turned (fun b o hb e=>kk b o (by simpa using hb) e) f0 f1 f3 f4 f5
  obtain⟨o',e,cc,dd⟩:=id yP
  exact⟨_,rfl,xc (s:={s with heap:=h',toks:=tk}) e cc dd Rg ⟨.str ⟨#[c]⟩,H,I1,⟨t',rfl⟩,⟨rfl,c,BD,rfl⟩,yP,fun b hb=>(hf b hb).1⟩⟩
 done:=by
  intro X hP hw hK hc i c_ s σ H E I hf st hg
  subst hP hw hK
  obtain⟨f0,f1,f2,f3,f4,f5⟩:=hf it (by simp)
  have e:i=x.cps.size:=hg
  subst e
  exact(W X.A (I.ok.hd hc)).done s _ _ st fun h' tk kk=>⟨rfl,I.turned (fun b o hb e=>kk b o (by simpa using hb) e) f0 f1 f3 f4 f5⟩
 self:=self
def Qz(te:TE):TI:=fun σ H R=>te σ H fun v H1=>∃x,v=.str x∧R (Pr x) H1
theorem NI{l:Expr}{te:TE}(hl:PE X l te):PI X tg l (Qz te):=by
 intro c_ s σ H R I h
 refine i3 (hl c_ s σ H _ I h) fun v s1 ⟨y,H1,I1,r1,x,e,q⟩=>?_
 subst e
 obtain⟨t,rfl⟩:=r1
 have fin:∀(ty:String)(T:Turn X.prog X.w X.K tg (Pr x) [s1.heap.objs.size] s1.heap.objs.size (fun i h=>h.IsStrIter s1.heap.objs.size ty x t i)),
   Ul X c_ σ tg R (.ref s1.heap.objs.size) {s1 with heap:=s1.heap.push {cls:=.type ty,data:=.fields #[.str x t,.int 0 0]}}:=fun ty T=>by
  refine⟨s1.heap.objs.size,[s1.heap.objs.size],_,_,H1,rfl,I1.kept (t':=s1.toks) fun b o e=>aac _ e,T,⟨_,aaz _ rfl,rfl,rfl⟩,fun b hb=>?_,q⟩
  have e:b=s1.heap.objs.size:=by simpa using hb
  subst e
  exact I1.yf (U0 _) (I1.iH.fresh (U0 _))
 cases ha:x.cps.all (·<128)
 ·exact wpAny_pyIter_wide ha (fin _ (Bg _ _ x t (by decide) (fun A hh=>Walks.strWide hh _ x t) fun _ _ _ _ _ st h=>wpAny_pyIter_striter_wide st h))
 ·exact wpAny_pyIter_ascii ha (fin _ (Bg _ _ x t (by decide) (fun A hh=>Walks.strAscii hh _ x t) fun _ _ _ _ _ st h=>wpAny_pyIter_striter_ascii st h))
theorem IW{x:Str}{g:TG}{tb:TS}{D:Ends}{σ:St}{H:Hp}(Pv:Nat→St→Hp→Prop)(h0:Pv 0 σ H)
  (hs:∀i c σ H,x.cps[i]?=some c→Pv i σ H→g (.str ⟨#[c]⟩) σ H fun σ2 H2=>tb {D with nx:=Pv (i+1),ct:=Pv (i+1),bk:=D.nx} σ2 H2) (hd:∀σ H,Pv x.length σ H→D.nx σ H) :
  ∃W:Nat→Nat→St→Hp→Prop,(∃m,W 0 m σ H)∧∀i m σ H,W i m σ H→
   ((Pr x).stop i H∧D.nx σ H)∨((Pr x).go i H∧∃N:St→Hp→Prop,(∀σ' H',N σ' H'→∃m',m'<m∧W (i+1) m' σ' H')∧∀v H',(Pr x).Ij i H v H'→g v σ H' fun σ2 H2=>tb {D with nx:=N,ct:=N,bk:=D.nx} σ2 H2):=by
 refine⟨fun i m σ H=>m=x.length-i∧i≤x.length∧Pv i σ H,⟨x.length,by simp,aaK _,h0⟩,?_⟩
 rintro i m σ H ⟨rfl,hi,p⟩
 by_cases lq:i<x.length
 ·refine .inr ⟨lq,Pv (i+1),fun σ' H' p'=>⟨x.length-(i+1),by omega,rfl,lq,p'⟩,fun v H' y=>?_⟩
  obtain⟨e,c,hc,rfl⟩:=y
  subst e
  exact hs i c σ _ hc p
 ·have e:i=x.length:=by omega
  subst e
  exact .inl ⟨rfl,hd σ H p⟩
def tFi(te:TE):TE:=fun σ H Q=>te σ H fun v H1=>∃i:Int,v=.int i∧i.natAbs.log2<1920∧Q (.str (toString i)) H1
theorem IX{e:Expr}{te:TE}{pos:Pos}(he:PE X e te):PE X (.FormattedValue e (-1) none pos) (tFi te):=by
 intro c_ s σ H Q I h
 refine FormattedValue_plain (i3 (he c_ s σ H _ I h) fun u s1 ⟨v,H1,I1,r1,i,ev,hy,q⟩=>?_)
 subst ev
 obtain⟨t',rfl⟩:=r1
 exact formatField_int_small hy ⟨.str (toString i),H1,I1.tok _,⟨_,rfl⟩,q⟩
end
section
variable{X:Cx}{tg:Expr}
noncomputable def IY(K:Qqy)(a:Addr)(n:Nat):It:=
 ⟨fun i H=>i<n∧∃xs,hV K H a xs∧xs.length=n,fun i H x H'=>H'=H∧∀xs,hV K H a xs→xs[n-1-i]?=some x,fun i _=>i=n⟩
theorem IZ{P:Program}{w:World}{K:Qqy}(a it:Addr)(n:Nat):Turn P w K tg (IY K a n) [it] it (fun i h=>h.IsRevIter it a ((n:Int)-1-(i:Nat))) where
 mem:=by simp
 obj:=fun i h st b hb=>by
  have e:b=it:=by simpa using hb
  subst e
  obtain⟨o,e,c,d⟩:=st
  exact⟨o,e,fun v z=>by rw[d] at z;cases z⟩
 keep:=fun i h h' st k=>st.at fun o e=>k it (by simp) o e
 item:=by
  intro X hP hw hK hc i c_ s σ H E I hf st hg
  subst hP hw hK
  obtain⟨hi,xs,hq,hl⟩:=hg
  obtain⟨hX,rv,p,hz⟩:=I.list hq
  have hx:xs[n-1-i]?=some xs[n-1-i]:=VN (by omega)
  obtain⟨u,hu,ru⟩:=rv.get hx
  obtain⟨f0,f1,f2,f3,f4,f5⟩:=hf it (by simp)
  have e1:(n:Int)-1-(i:Nat)=((n-1-i:Nat):Int):=by omega
  rw[e1] at st
  refine wpAny_pyNext_rev_item st p.isList (x:=u) (by simpa using hu) fun h' yP sb=>?_
  have e2:((n-1-i:Nat):Int)-1=(n:Int)-1-((i+1:Nat):Int):=by omega
  rw[e2] at yP
  have I1:Inv X c_ σ H {s with heap:=h'}:=I.turned (t':=s.toks) (fun b o hb e=>(sb.2 b hb).trans e) f0 f1 f3 f4 f5
  obtain⟨o,e,c,d⟩:=id yP
  exact⟨u,rfl,xc (s:={s with heap:=h'}) e c d (by decide) ⟨_,H,I1,ru,⟨rfl,fun ys hy=>by rw[I.pw hy hq];exact hx⟩,yP,fun b hb=>(hf b hb).1⟩⟩
 done:=by
  intro X hP hw hK hc i c_ s σ H E I hf st hg
  subst hP hw hK
  have hg:i=n:=hg
  subst hg
  obtain⟨f0,f1,f2,f3,f4,f5⟩:=hf it (by simp)
  have e1:(i:Int)-1-(i:Nat)=-1:=by omega
  rw[e1] at st
  exact wpAny_pyNext_rev_end (I.ok.hd hc) st fun h' eb=>⟨rfl,I.turned (t':=s.toks) (fun b o hb e=>eb b o hb e) f0 f1 f3 f4 f5⟩
 self:=fun _ _ _ _ _ st h=>wpAny_pyIter_revIter st h
def QA(K:Qqy)(ta:TA):TI:=fun σ H R=>ta σ H fun vs H1=>∃a xs,vs=[.ref a]∧hV K H1 a xs∧R (IY K a xs.length) H1
theorem K4{a:Expr}{ta:TA}{p pos:Pos}(hg:Gl X "reversed")(hm:X.mg "reversed"=none)(ha:PA X [a] ta)(hs:starEach [a] X.env=[(false,eval a X.env)]:=by rfl):PI X tg (.Call (.Name "reversed" p) [a] [] pos) (QA X.K ta):=by
 intro c_ s σ H R I h
 refine Call_ (o4 I hg hm boot_reversed (aa0 (i3 (ha pos c_ s σ H _ I h) fun us s1 ⟨vs,H1,I1,r1,q1⟩=>?_) hs rfl))
 obtain⟨l,xs,rfl,hq,q⟩:=q1
 obtain⟨u,rfl,ru⟩:=vals1 r1
 cases (show u=Value.ref l from ru)
 obtain⟨hX,rv,pp,hz⟩:=I1.list hq
 have hl:=rv.length
 refine call_reversed_list pp.isList ?_
 have I2:Inv X c_ σ H1 {s1 with heap:=s1.heap.push (revObj l ((hX.toArray.size:Int)-1))}:=I1.kept (t':=s1.toks) fun b o e=>aac _ e
 have st:(s1.heap.push (revObj l ((hX.toArray.size:Int)-1))).IsRevIter s1.heap.objs.size l ((xs.length:Int)-1-((0:Nat):Int)):=by
  have e1:(xs.length:Int)-1-((0:Nat):Int)=(hX.toArray.size:Int)-1:=by rw[hl];simp
  rw[e1]
  exact⟨_,aaz _ rfl,rfl,rfl⟩
 refine wpAny_pyIter_revIter st ?_
 refine⟨s1.heap.objs.size,[s1.heap.objs.size],_,_,H1,rfl,I2,IZ l _ xs.length,st,fun b hb=>?_,q⟩
 have e:b=s1.heap.objs.size:=by simpa using hb
 subst e
 exact I1.yf (U0 _) (I1.iH.fresh (U0 _))
theorem K5{K:PySem.W.Frag}{a:Addr}{xs:List V}{g:TG}{tb:TS}{D:Ends}{σ:St}{H:Hp}(Pv:Nat→St→Hp→Prop)(h0:Pv 0 σ H)(hl:∀i σ H,i≤xs.length→Pv i σ H→hV K H a xs)
  (hs:∀i x σ H,xs.reverse[i]?=some x→Pv i σ H→g x σ H fun σ2 H2=>tb {D with nx:=Pv (i+1),ct:=Pv (i+1),bk:=D.nx} σ2 H2) (hd:∀σ H,Pv xs.length σ H→D.nx σ H) :
  ∃W:Nat→Nat→St→Hp→Prop,(∃m,W 0 m σ H)∧∀i m σ H,W i m σ H→
   ((IY K a xs.length).stop i H∧D.nx σ H)∨((IY K a xs.length).go i H∧∃N:St→Hp→Prop,(∀σ' H',N σ' H'→∃m',m'<m∧W (i+1) m' σ' H')∧∀x H',(IY K a xs.length).Ij i H x H'→g x σ H' fun σ2 H2=>tb {D with nx:=N,ct:=N,bk:=D.nx} σ2 H2):=by
 refine⟨fun i m σ H=>m=xs.length-i∧i≤xs.length∧Pv i σ H,⟨xs.length,by simp,aaK _,h0⟩,?_⟩
 rintro i m σ H ⟨rfl,hi,p⟩
 have q:=hl i σ H hi p
 by_cases lq:i<xs.length
 ·refine .inr ⟨⟨lq,xs,q,rfl⟩,Pv (i+1),fun σ' H' p'=>⟨xs.length-(i+1),by omega,rfl,lq,p'⟩,fun x H' y=>?_⟩
  obtain⟨e,y⟩:=y
  subst e
  refine hs i x σ _ ?_ p
  rw[List.getElem?_reverse lq]
  exact y xs q
 ·have e:i=xs.length:=by omega
  subst e
  exact .inl ⟨rfl,hd σ H p⟩
theorem I_{prog:Program}{w:World}{A:Around}{E:Qqq}{s:Shared}{r:Addr}{Q:Bool→Shared→Prop}(hT:s.TypeIs (.ref r) "list_reverseiterator")(h:Q false s):wpAny (model prog w) A (Builtin.List.listLengthHint (.ref r)) Q E s:=by
 have f1:typeLookup (.type "list_reverseiterator") "__len__"=pure none:=by rw[typeLookup_type,builtinLookup_eq_fast];kernel_rfl
 have f2:typeLookup (.type "list_reverseiterator") "__length_hint__"=pure (some (.builtin "list_reverseiterator.__length_hint__")):=by rw[typeLookup_type,builtinLookup_eq_fast];kernel_rfl
 unfold Builtin.List.listLengthHint
 refine UP (aca hT f1 ?_)
 wp_delta
 refine acb (fun GS=>absurd GS (by decide)) (fun _=>?_)
 refine acb (fun GS=>absurd GS (by decide)) (fun _=>?_)
 refine UP (aca hT f2 ?_)
 generalize Tg:("list_reverseiterator.__length_hint__":String)=id0
 wp_delta
 rw[show splitId id0=some ("list_reverseiterator","__length_hint__") from by subst Tg;decide+kernel]
 subst Tg
 refine UP (wpAny_isInstance (T:="list_reverseiterator") (b:=true) hT (by rw[isSubtype_type];kernel_rfl) ?_)
 refine acb (fun GS=>absurd GS (by decide)) (fun _=>?_)
 refine acb (fun _=>?_) (fun GS=>absurd (by decide+kernel) GS)
 refine acb (fun GS=>absurd GS (by decide)) (fun _=>?_)
 exact aab h
theorem Hd{prog:Program}{w:World}{A:Around}{E:Qqq}{s:Shared}{T:String}{r d:Addr}{n:Nat}{P:Nat→Value→Prop}{St:Nat→Heap→Prop}{Q:Qqq}
  (W:Walks prog w A.in1.in1 r [r,d] [r] n P St) (hT:∀h:Heap,St 0 h→∃o,h.get? r=some o∧o.cls=.type T) (hl:(Value.type T ==Value.type "list")=false) (ht:(Value.type T ==Value.type "tuple")=false)
  (hint:∀(A:Around)(E:Qqq)(s:Shared)(Q:Bool→Shared→Prop),St 0 s.heap→Q false s→wpAny (model prog w) A (Builtin.List.listLengthHint (.ref r)) Q E s)
  (self:∀(A:Around)(E:Qqq)(s:Shared)(Q:Qqq),St 0 s.heap→Q (.ref r) s→wpAny (model prog w) A (pyIter (.ref r)) Q E s)
  (hd:d<s.heap.objs.size) (st:St 0 s.heap) (hn:n≤sizeLine)
  (hQ:∀h' tk LV c',(∀b o,b≠r→s.heap.get? b=some o→h'.get? b=some o)→h'.get? s.heap.objs.size=some {cls:=.type "list",dict:=none,data:=.seq LV c',slots:=#[]}→ItemsOf P LV n→Q (.ref s.heap.objs.size) {s with heap:=h',toks:=tk}) :
  wpAny (model prog w) A (call (.type "list") [.ref r]) Q E s:=by
 obtain⟨or,hor,Yu⟩:=hT _ st
 have EM:r<s.heap.objs.size:=aax hor
 refine callType_codes (Q₁:=fun obj s₁=>obj=.ref s.heap.objs.size∧s₁={s with heap:=s.heap.push {cls:=.type "list",data:=.seq #[]}}) PySem.F.called_list (PySem.F.typeCall_list_1 _) PySem.F.entry_list_init
  (code_list_new _ ⟨rfl,rfl⟩) fun obj s₁ h₁=>?_
 obtain⟨rfl,rfl⟩:=h₁
 have hS:(s.heap.push {cls:=.type "list",data:=.seq #[]}).get? s.heap.objs.size=some {cls:=.type "list",data:=.seq #[]}:=aaz _ rfl
 have Vz:s.heap.objs.size≠r:=Nat.ne_of_gt EM
 have Yv:s.heap.objs.size≠d:=Nat.ne_of_gt hd
 refine⟨⟨_,hS,rfl⟩,PySem.F.args_list_init_2 _ _,?_⟩
 show wpAny _ _ (do let old ←Builtin.List.listItems (.ref s.heap.objs.size);Builtin.List.listUpdate (.ref s.heap.objs.size) (fun _=>#[]);letGo old.toList.reverse;Builtin.List.listExtendWith (.ref s.heap.objs.size) (.ref r) .none) _ _ _
 refine UP ?_
 unfold Builtin.List.listItems
 refine UP (wpAny_seqItems hS rfl (aab ?_))
 show wpAny _ _ (updateSeq s.heap.objs.size (fun _=>#[]) >>= fun _=>letGo (#[]:Array Value).toList.reverse >>= fun _=>Builtin.List.listExtendWith (.ref s.heap.objs.size) (.ref r) .none) _ _ _
 refine UP (wpAny_updateSeq hS rfl ?_)
 have Th:=aa_ (Obj.mapSeq (fun _=>(#[]:Array Value))) hS rfl
 have Ti:∀b o,s.heap.get? b=some o→((s.heap.push {cls:=.type "list",data:=.seq #[]}).update s.heap.objs.size (Obj.mapSeq (fun _=>(#[]:Array Value)))).get? b=some o:=
  fun b o e=>(abL _ _ (Nat.ne_of_gt (aax e))).trans (aac _ e)
 refine UP (wpAny_letGo ?_)
 generalize (s.heap.push {cls:=.type "list",data:=.seq #[]}).update s.heap.objs.size (Obj.mapSeq (fun _=>(#[]:Array Value)))=h2 at Th Ti
 have AU:St 0 h2:=W.frame 0 _ _ st fun b _ o e=>Ti b o e
 have key:∀(h:Heap)(c₁ tk:Nat),St 0 h→(∀b o,s.heap.get? b=some o→h.get? b=some o)→
   h.get? s.heap.objs.size=some {cls:=.type "list",data:=.seq #[] c₁}→codeAny (model prog w) A.in1 (.builtin "list.extend.loop" ⟨[.ref s.heap.objs.size,.ref r,.none],[]⟩)
    (fun r s'=>match r with|.ok (.ret v)=>v=.none∧Q (.ref s.heap.objs.size) s'|.ok _=>False|.error e=>E e s') {s with heap:=h,toks:=tk}:=by
  intro h c₁ tk yt hk hS₁
  refine codeAny_extend_loopS W.toS hn s.heap.objs.size (by simp only [XW,abE,or_false,not_or];exact⟨Vz,Yv⟩) .none n 0 _ #[] c₁ rfl (aaK _) yt hS₁ (ItemsOf.nil _) fun s' LV c' hm hS' vP=>?_
  rw[Moved.eq_with hm]
  refine⟨rfl,hQ s'.heap s'.toks LV c' (fun b o hb e=>hm.heap b o (fun wV=>?_) (hk b o e)) hS' vP⟩
  rcases XW.mp wV with e'|wV
  ·exact absurd (aax e) (by rw[e'];exact abm _)
  ·exact hb (US.mp wV)
 unfold Builtin.List.listExtendWith
 refine UP (wpAny_typeOf (T:=T) (hT _ AU) ?_)
 have h1:Builtin.List.listSameRef (.ref s.heap.objs.size) (.ref r)=false:=by simp[Builtin.List.listSameRef,Vz]
 simp only [h1,hl,ht,Bool.or_false,aa3,abZ]
 refine UP (self _ _ _ _ AU ?_)
 refine UP (abG (hint _ _ _ _ AU ?_))
 refine acb (fun _=>?_) (fun _=>aab ⟨plainId_quiet PySem.F.plain_extend_loop _,key _ _ _ AU Ti Th⟩)
 refine UP (wpAny_rule ?_)
 refine UP ?_
 show wpAny _ _ (updateSeq s.heap.objs.size (·.push .none) >>= fun _=>updateSeq s.heap.objs.size (·.pop)) _ _ _
 refine UP (wpAny_updateSeq Th rfl ?_)
 have Yw:=aa_ (Obj.mapSeq (·.push Value.none)) Th rfl
 refine wpAny_updateSeq (hz:=by seq_fits) Yw rfl ?_
 have hS₄:=aa_ (Obj.mapSeq (·.pop)) Yw rfl
 have RD:∀b o,b≠s.heap.objs.size→h2.get? b=some o→((h2.update s.heap.objs.size (Obj.mapSeq (·.push Value.none))).update s.heap.objs.size (Obj.mapSeq (·.pop))).get? b=some o:=fun b o hb e=>
  (abL _ _ (abQ hb)).trans ((abL _ _ (abQ hb)).trans e)
 refine aab ⟨plainId_quiet PySem.F.plain_extend_loop _,key _ _ _ (W.frame 0 _ _ AU fun b hb o e=>RD b o (fun z=>?_) e) (fun b o e=>RD b o (aaW (aax e)) (Ti b o e)) hS₄⟩
 subst z
 simp only [XW,abE,or_false] at hb
 rcases hb with z|z
 ·exact Vz z
 ·exact Yv z
def Ja(K:Qqy)(ta:TA):TE:=fun σ H Q=>ta σ H fun vs H1=>∃a xs,vs=[.ref a]∧hV K H1 a xs∧∀p,H1 p=none→Q (.ref p) (upd H1 p (.lst xs.reverse))
theorem Fm{a:Expr}{ta:TA}{p1 p2 VA LW:Pos}(hc:X.calm=true)(PH:Gl X "list")(VB:X.mg "list"=none)(hg:Gl X "reversed")(hm:X.mg "reversed"=none)(ha:PA X [a] ta)(hs:starEach [a] X.env=[(false,eval a X.env)]:=by rfl)
  (VC:starEach [.Call (.Name "reversed" p2) [a] [] LW] X.env=[(false,eval (.Call (.Name "reversed" p2) [a] [] LW) X.env)]:=by rfl):PE X (.Call (.Name "list" p1) [.Call (.Name "reversed" p2) [a] [] LW] [] VA) (Ja X.K ta):=by
 intro c_ s σ H Q I h
 refine Call_ (o4 I PH VB boot_list (aa0 ?_ VC rfl))
 rw[VC]
 refine abf ?_
 refine Call_ (o4 I hg hm boot_reversed (aa0 (i3 (ha LW c_ s σ H _ I h) fun us s1 ⟨vs,H1,I1,r1,q1⟩=>?_) hs rfl))
 obtain⟨l,xs,rfl,hq,q⟩:=q1
 obtain⟨u,rfl,ru⟩:=vals1 r1
 cases (show u=Value.ref l from ru)
 obtain⟨hX,rv,pp,hz⟩:=I1.list hq
 have hl:=rv.length
 refine call_reversed_list pp.isList (abv ?_)
 have lq:l<s1.heap.objs.size:=let ⟨o,ho,_⟩:=pp.isList;aax ho
 have hL:(s1.heap.push (revObj l ((hX.toArray.size:Int)-1))).IsList l hX.toArray:=pp.isList.at fun o e=>aac _ e
 refine Hd (s:={s1 with heap:=s1.heap.push (revObj l ((hX.toArray.size:Int)-1))}) (T:="list_reverseiterator") (d:=l) (n:=hX.toArray.size) (Walks.listRev (prog:=X.prog) (w:=X.w) (A:=X.A.in1.in1) (show X.A.in1.in1.handled=none from I.ok.hd hc) s1.heap.objs.size l (aaW lq) hX.toArray) (fun h ⟨_,⟨o,ho,BD,_⟩,_⟩=>⟨o,ho,BD⟩) (by decide) (by decide)
  (fun A E s Q ⟨_,⟨o,ho,BD,_⟩,_⟩ hq=>I_ ⟨o,ho,BD⟩ hq) (fun A E s Q ⟨_,x,_⟩ hq=>wpAny_pyIter_revIter x hq) (aaE lq (by show s1.heap.objs.size≤(s1.heap.push _).objs.size;rw[Heap.size_push];exact Nat.le_succ _))
  ⟨aaK _,by
   have e:(hX.toArray.size:Int)-1-((0:Nat):Int)=(hX.toArray.size:Int)-1:=by omega
   rw[e];exact⟨_,aaz _ rfl,rfl,rfl⟩,hL⟩ (by rw[aag,←hl];exact hz) fun h' tk acc c hk hS vP=>?_
 have hf:H1 (s1.heap.push (revObj l ((hX.toArray.size:Int)-1))).objs.size=none:=I1.iH.fresh (by rw[Heap.size_push];omega)
 have rel:Vals xs.reverse acc.toList:=by
  have hsz:acc.toList.length=acc.size:=aa9
  refine pA (by rw[abj,hsz,vP.1,aag,hl]) fun i x y hx hy=>?_
  have hi:i<xs.length:=by have:=(RO.mp hx).1;rwa [abj] at this
  have z:=vP.2 i y (by rw[←aa8];exact hy)
  rw[List.getElem?_reverse hi] at hx
  obtain⟨w,hw,AV⟩:=rv.get hx
  rw[aag,←hl] at z
  have z2:hX[xs.length-1-i]?=some y:=by simpa using z
  rw[hw] at z2
  cases z2
  exact AV
 refine⟨.ref _,upd H1 _ (.lst xs.reverse),I1.laid (t':=tk) (h':=h') (fun b o e=>hk b o (aaW (aax e)) (aac _ e)) (by rw[Heap.size_push];omega) ?_,rfl,q _ hf⟩
 exact⟨by rw[abj];exact hz,acc.toList,c,rel,by rw[Array.toArray_toList];exact hS⟩
end
open PySem PySem.Builtin.Str
theorem subAt_one(s:Str)(c i:Nat):subAt s ⟨#[c]⟩ i=decide (s.cps[i]?=some c):=by
 unfold subAt
 show(s.cps.extract i (i+1) ==#[c])=_
 rw[abA]
 simp only [ab3,abI]
 by_cases h:i<s.cps.size
 ·have e:s.cps.extract i (i+1)=#[s.cps[i]]:=by
   apply Array.ext
   ·simp;omega
   ·intro j h1 h2
    simp at h2
    subst h2
    simp
  rw[e,aaY h]
  constructor
  ·intro z;simpa using z
  ·intro z;simpa using z
 ·have e:s.cps.extract i (i+1)=#[]:=by
   apply Array.ext
   ·simp;omega
   ·intro j h1 h2;simp at h2
  rw[e,Array.getElem?_eq_none (by omega)]
  simp
noncomputable def oG(s sub:Str)(hi:Nat)(p:Array Nat×Nat)(i:Nat):Array Nat×Nat:=
 if(decide (p.1.size<1)&&decide (p.2≤i)&&decide (i+sub.length≤hi)&&subAt s sub i)=true then(p.1.push i,i+sub.length) else p
theorem Jb(s sub:Str)(lo hi:Nat):occurrences s sub lo hi 1=((List.range' lo (hi+1-lo)).foldl (oG s sub hi) (#[],lo)).1.toList:=by
 unfold occurrences
 simp only [Std.Legacy.Range.forIn_eq_forIn_range',Std.Legacy.Range.size]
 rw[show(hi+1-lo+1-1)/1=hi+1-lo by omega]
 generalize List.range' lo (hi+1-lo)=l
 generalize ((#[],lo):Array Nat×Nat)=p
 show Id.run (forIn l p _ >>= _)=_
 have go:∀(l:List Nat)(p:Array Nat×Nat),(forIn l p (fun(i:Nat) (q:Array Nat×Nat)=>(if(decide (q.fst.size<1)&&decide (q.snd≤i)&&decide (i+sub.length≤hi)&&subAt s sub i)=true then
   pure (ForInStep.yield (q.fst.push i,i+sub.length)) else pure (ForInStep.yield (q.fst,q.snd)):Id (ForInStep (Array Nat×Nat)))):Id (Array Nat×Nat))=l.foldl (oG s sub hi) p:=by
  intro l
  induction l with
  | nil=>intro p;rfl
  | cons a r ih=>
   intro p
   rw[List.forIn_cons,List.foldl_cons]
   unfold oG
   split
   ·exact ih _
   ·exact ih _
 rw[go]
 rfl
theorem K6(s:Str)(c:Nat):(occurrences s ⟨#[c]⟩ 0 s.length 1).isEmpty=decide (c∉s.cps.toList):=by
 rw[Jb]
 have inv:∀(l:List Nat)(p:Array Nat×Nat),(p.1=#[]→p.2=0)→((l.foldl (oG s ⟨#[c]⟩ s.length) p).1=#[]↔p.1=#[]∧∀i∈l,¬(i+1≤s.length∧s.cps[i]?=some c)):=by
  intro l
  induction l with
  | nil=>intro p _;simp
  | cons a r ih=>
   intro p hp
   rw[List.foldl_cons]
   by_cases hc:(decide (p.1.size<1)&&decide (p.2≤a)&&decide (a+(⟨#[c]⟩:Str).length≤s.length)&&subAt s ⟨#[c]⟩ a)=true
   ·have e:oG s ⟨#[c]⟩ s.length p a=(p.1.push a,a+(⟨#[c]⟩:Str).length):=aas hc
    rw[e,ih _ (fun z=>by simp at z)]
    simp only [aaZ,abI,subAt_one] at hc
    constructor
    ·rintro⟨z,_⟩;simp at z
    ·rintro⟨z,h⟩
     exact absurd ⟨hc.1.2,hc.2⟩ (h a aav)
   ·have e:oG s ⟨#[c]⟩ s.length p a=p:=aan hc
    rw[e,ih _ hp]
    constructor
    ·rintro⟨z,h⟩
     refine⟨z,fun i hi=>?_⟩
     rcases XW.mp hi with rfl|hi
     ·intro ⟨h1,h2⟩
      apply hc
      simp only [aaZ,abI,subAt_one]
      exact⟨⟨⟨by rw[z];decide,by rw[hp z];exact aaK _⟩,h1⟩,h2⟩
     ·exact h i hi
    ·rintro⟨z,h⟩
     exact⟨z,fun i hi=>h i (aal _ hi)⟩
 have h:=inv (List.range' 0 (s.length+1-0)) (#[],0) (fun _=>rfl)
 rw[abA,abI,List.isEmpty_iff]
 rw[show(List.foldl (oG s ⟨#[c]⟩ s.length) (#[],0) (List.range' 0 (s.length+1-0))).1.toList=[]↔(List.foldl (oG s ⟨#[c]⟩ s.length) (#[],0) (List.range' 0 (s.length+1-0))).1=#[] from ⟨fun z=>by simpa using z,fun z=>by rw[z]⟩,h]
 constructor
 ·rintro⟨_,h⟩ hm
  obtain⟨i,hi,e⟩:=List.mem_iff_getElem.mp hm
  have AW:i<s.cps.size:=by simpa using hi
  refine h i (by rw[List.mem_range'_1];show 0≤i∧i<0+(s.cps.size+1-0);omega) ⟨AW,?_⟩
  rw[aaY AW]
  simpa using e
 ·intro hn
  refine⟨rfl,fun i _ ⟨_,h2⟩=>hn ?_⟩
  exact VI (i:=i) (by rw[aa8];exact h2)
section
variable{prog:Program}{w:World}{A:Around}{E:Qqq}{s:Shared}
end
section
variable{X:Cx}
end
def wq(h:Heap)(d:Addr)(es:Array DictEntry)(ep:Nat):Prop:=∃o,h.get? d=some o∧o.ExactDict∧o.data=.dict es ep
section
variable{P:Program}{w:World}{A:Around}{E:Qqq}{s:Shared}{d it:Addr}{es:Array DictEntry}{ep i:Nat}
theorem wq.ty(x:wq s.heap d es ep):s.TypeIs (.ref d) "dict":=by obtain⟨o,e,c,_⟩:=x;exact⟨o,e,c.1⟩
theorem wq.at{h h':Heap}(x:wq h d es ep)(k:∀o,h.get? d=some o→h'.get? d=some o):wq h' d es ep:=by obtain⟨o,e,r⟩:=x;exact⟨o,k o e,r⟩
theorem DD{Q:Qqq}(lo:(d ==sysModules)=false)(x:wq s.heap d es ep)
  (k:Q (.ref s.heap.objs.size) {s with heap:=s.heap.push {cls:=.type "dict_keyiterator",data:=.fields #[.ref d,.int 0 0,.int es.size 0,.int ep 0]}}):wpAny (model P w) A (pyIter (.ref d)) Q E s:=by
 have ty:=x.ty
 obtain⟨o,e,c,dt⟩:=x
 refine wpAny_pyIter_slot ty F.slot_dict_iter (abN F.slot_dict_iter ty F.entry_dict_iter ?z (F.args_dict_iter_1 _))
 case z=>
  unfold Builtin.«dict.__iter__» Builtin.Dict.dictSlotNone
  refine UP (UP (wpAny_notOrdered_dict ty (show wpAny _ _ (pure (Value.ref d)) _ _ s from aab ?z)))
  case z=>
   show wpAny _ _ (Builtin.Dict.showsAll d >>= _) _ _ s
   unfold Builtin.Dict.showsAll
   rw[lo,aan (fun z=>by cases z)]
   refine UP (aab (UP (abd e dt (UP (wpAny_dictEpoch e dt (UP (abx (aab ?z))))))))
   case z=>exact⟨_,rfl,"dict_keyiterator",_,⟨_,aaz _ rfl,rfl⟩,abl.lookup,by simpa[rawInt] using k⟩
theorem DE{Q:Option Value→Shared→Prop}{y:DictEntry}(x:s.heap.IsKeyIter it d i es.size ep)(r:wq s.heap d es ep)(hy:es[i]?=some y)
  (k:∀h',h'.IsKeyIter it d (i+1) es.size ep→Heap.SameBut it s.heap h'→Q (some y.key) {s with heap:=h'}):wpAny (model P w) A (pyNext (.ref it)) Q E s:=by
 have ty:=x.typeIs
 obtain⟨o,e,c,dt⟩:=id x
 obtain⟨o2,e2,c2,RE⟩:=r
 have OQ:Builtin.Dict_items.ownsTuple "dict_keyiterator"=false:=by decide
 unfold pyNext
 refine UP (wpAny_attempt (wpAny_callSpecial?_slot (name:=Str.ofString "__next__") ty abl (abN abl ty F.entry_dict_keyiterator_next ?z (F.args_dict_keyiterator_next_1 _))))
 case z=>
  refine UP (aab (UP (UP ?z)))
  case z=>
   first|refine UP (abF ty (aab (UP (wpAny_fieldsOf e dt ?z))))|refine UP (wpAny_typeNameOf_keyiter ty (aab (UP (wpAny_fieldsOf e dt ?z))))
   case z=>
    simp only [OQ,aa3,abZ]
    show wpAny _ _ (if(Value.ref d ==Value.none)=true then _ else _) _ _ s
    rw[aan (fun z=>by cases z)]
    refine UP (aab (UP (abd e2 RE ?z)))
    case z=>
     rw[aan (by simp)]
     refine UP (aab (UP (wpAny_dictEpoch e2 RE ?z)))
     case z=>
      rw[aan (by simp)]
      refine aab ?z
      case z=>
       simp only [show ¬((i:Int)<0) by omega,abZ,abW,hy]
       refine UP ?z
       case z=>
        first|refine UP (abF ty (aab (UP (wpAny_isOneOf_keyiter ty ?z))))|refine UP (wpAny_typeNameOf_keyiter ty (aab (UP (wpAny_isOneOf_keyiter ty ?z))))
        case z=>
         show wpAny _ _ (setField (.ref it) 1 (rawInt ((i:Int)+1)) >>= _) _ _ s
         have n:(s.heap.update it (Obj.mapFields (·.setIfInBounds 1 (rawInt ((i:Int)+1))))).IsKeyIter it d (i+1) es.size ep:=
          ⟨_,aa_ _ e (Obj.isFreed_of_fields (Obj.data_mapFields dt _)),(Obj.cls_mapFields ..).trans c,by rw[Obj.data_mapFields dt];simp[rawInt]⟩
         refine UP (wpAny_setField e dt (by simp) (UP (abG (UP (wpAny_isOneOf_keyiter (s:={s with heap:=s.heap.update it (Obj.mapFields (·.setIfInBounds 1 (rawInt ((i:Int)+1))))}) n.typeIs ?z)))))
         case z=>
          show wpAny _ _ (pure y.key) _ _ _
          exact aab (aab ⟨_,rfl,aab (k _ n (abk ..))⟩)
theorem DG{Q:Option Value→Shared→Prop}(hh:A.handled=none)(x:s.heap.IsKeyIter it d i es.size ep)(r:wq s.heap d es ep)(hy:es.size≤i)
  (k:∀h',Heap.ExtBut it s.heap h'→Q none {s with heap:=h'}):wpAny (model P w) A (pyNext (.ref it)) Q E s:=by
 have ty:=x.typeIs
 obtain⟨o,e,c,dt⟩:=id x
 obtain⟨o2,e2,c2,RE⟩:=r
 have OQ:Builtin.Dict_items.ownsTuple "dict_keyiterator"=false:=by decide
 unfold pyNext
 refine UP (wpAny_attempt (wpAny_callSpecial?_slot (name:=Str.ofString "__next__") ty abl (abN abl ty F.entry_dict_keyiterator_next ?z (F.args_dict_keyiterator_next_1 _))))
 case z=>
  refine UP (aab (UP (UP ?z)))
  case z=>
   first|refine UP (abF ty (aab (UP (wpAny_fieldsOf e dt ?z))))|refine UP (wpAny_typeNameOf_keyiter ty (aab (UP (wpAny_fieldsOf e dt ?z))))
   case z=>
    simp only [OQ,aa3,abZ]
    show wpAny _ _ (if(Value.ref d ==Value.none)=true then _ else _) _ _ s
    rw[aan (fun z=>by cases z)]
    refine UP (aab (UP (abd e2 RE ?z)))
    case z=>
     rw[aan (by simp)]
     refine UP (aab (UP (wpAny_dictEpoch e2 RE ?z)))
     case z=>
      rw[aan (by simp)]
      refine aab ?z
      case z=>
       simp only [show ¬((i:Int)<0) by omega,abZ,abW,Array.getElem?_eq_none hy]
       refine UP ?z
       case z=>
        first|refine UP (abF ty (aab ?z))|refine UP (wpAny_typeNameOf_keyiter ty (aab ?z))
        case z=>
         show wpAny _ _ (setField (.ref it) 0 .none >>= _) _ _ s
         refine UP (wpAny_setField e dt (by simp) ?z)
         case z=>
          show wpAny _ _ (newExc (.type "StopIteration") [] >>= _) _ _ _
          refine UP ?z
          case z=>
           simp only [newExc,newTuple]
           refine UP (abx (UP (m:=firstArgMember _ _) (wpAny_of_eq (a:=Value.none) (by first|rfl|(simp only [firstArgMember];rfl)) (abx ?z (by size_fits)))) (by size_fits))
           case z=>
            simp only [raiseNew]
            refine UP (wpAny_handled ?z)
            case z=>
             rw[show A.in1.handled=none from hh]
             refine UP (aab (wpAny_throw ?z))
             case z=>exact UP (wpAny_isInstance (T:="StopIteration") (b:=true) ⟨_,aaz _ rfl,rfl⟩ isSubtype_stop <| aab (k _ (((abk ..).extBut.push _).push _)))
end
section
variable{X:Cx}{c_:Qqz}{σ:St}{H:Hp}{s:Shared}{tg:Expr}
noncomputable def He(d:Addr)(o:Obj)(kvs:List (List Key×V)):It:=
 ⟨fun i H=>H d=some (.mQ o (.dT kvs))∧i<kvs.length,fun i H x H'=>H'=H∧∃k v b,kvs[i]?=some (k,v)∧x=.ref b∧H b=some (.tup (k.map kV)),fun i H=>H d=some (.mQ o (.dT kvs))∧kvs.length≤i⟩
theorem kt_at{kvs:List (List Key×V)}{xs:List (List Key×Addr×Value)}(r:KT H kvs xs):∀{i:Nat} {k:List Key} {b:Addr} {u:Value},xs[i]?=some (k,b,u)→∃v,kvs[i]?=some (k,v)∧H b=some (.tup (k.map kV))∧RelV v u:=by
 induction r with
 | nil=>intro i k b u e;simp at e
 | @cons p q ps qs f t ih=>
  intro i k b u e
  cases i with
  | zero=>
   simp at e
   subst e
   exact⟨p.2,aa5 some (Prod.ext f.1 rfl),by rw[←show p.1=k from f.1];exact f.2.1,f.2.2⟩
  | succ i=>
   obtain⟨v,h1,h2⟩:=ih (by simpa using e)
   exact⟨v,by simpa using h1,h2⟩
theorem zd{P:Program}{w:World}{h:Heap}{d:Addr}{kvs:List (List Key×V)}(q:i5 P w H h d (.dT kvs)):(d ==sysModules)=false∧kvs.length≤sizeLine∧∃(es:Array DictEntry)(ep:Nat),wq h d es ep∧es.size=kvs.length∧
  (∀(i:Nat)(y:DictEntry),es[i]?=some y→∃k v b,kvs[i]?=some (k,v)∧y.key=.ref b∧H b=some (.tup (k.map kV))∧RelV v y.val):=by
 obtain⟨hz,hs,xs,r,o,es,ep,ho,hc,hd,he,hn⟩:=q
 have sz:=acd he
 refine⟨hs,hz,es,ep,⟨o,ho,hc,hd⟩,by rw[sz];exact(aao r).symm,fun i y hy=>?_⟩
 rw[entry_at he i] at hy
 obtain⟨⟨k,b,u⟩,hx,e⟩:=aaF.mp hy
 obtain⟨v,h1,h2,h3⟩:=kt_at r hx
 subst e
 exact⟨k,v,b,h1,rfl,h2,h3⟩
theorem Fn{P:Program}{w:World}{K:Qqy}(d it:Addr)(o:Obj)(es:Array DictEntry)(ep:Nat)(kvs:List (List Key×V))(J6:o.data=.dict es ep)(hsz:es.size=kvs.length):Turn P w K tg (He d o kvs) [it] it (fun i h=>h.IsKeyIter it d i es.size ep) where
 mem:=by simp
 obj:=fun i h st b hb=>by
  have e:b=it:=by simpa using hb
  subst e
  obtain⟨o,e,c,d⟩:=st
  exact⟨o,e,fun v z=>by rw[d] at z;cases z⟩
 keep:=fun i h h' st k=>st.at fun o e=>k it (by simp) o e
 item:=by
  intro X hP hw hK hc i c_ s σ H E I hf st hg
  subst hP hw hK
  obtain⟨hd,hi⟩:=hg
  obtain⟨ho,q⟩:=(show i5 X.prog X.w H s.heap d (.mQ o (.dT kvs)) from I.iH d _ hd)
  obtain⟨_,_,PB,Mu,raw,sz,PJ⟩:=zd q
  obtain⟨o',om,h2,h3⟩:=id raw
  rw[ho] at om;cases om
  rw[J6] at h3;cases h3
  have AW:i<es.size:=by omega
  obtain⟨k,v,b,e1,e2,e3,_⟩:=PJ i es[i] (aaY AW)
  obtain⟨f0,f1,f2,f3,f4,f5⟩:=hf it (by simp)
  refine DE st raw (aaY AW) fun h' yP sb=>?_
  have I1:Inv X c_ σ H {s with heap:=h'}:=I.turned (t':=s.toks) (fun b o hb e=>(sb.2 b hb).trans e) f0 f1 f3 f4 f5
  obtain⟨o',e,c,dd⟩:=id yP
  exact⟨_,rfl,xc (s:={s with heap:=h'}) e c dd (by decide) ⟨.ref b,H,I1,e2,⟨rfl,k,v,b,e1,rfl,e3⟩,yP,fun b hb=>(hf b hb).1⟩⟩
 done:=by
  intro X hP hw hK hc i c_ s σ H E I hf st hg
  subst hP hw hK
  obtain⟨hd,hi⟩:=hg
  obtain⟨ho,q⟩:=(show i5 X.prog X.w H s.heap d (.mQ o (.dT kvs)) from I.iH d _ hd)
  obtain⟨_,_,PB,Mu,raw,sz,PJ⟩:=zd q
  obtain⟨o',om,h2,h3⟩:=id raw
  rw[ho] at om;cases om
  rw[J6] at h3;cases h3
  obtain⟨f0,f1,f2,f3,f4,f5⟩:=hf it (by simp)
  exact DG (I.ok.hd hc) st raw (by omega) fun h' eb=>⟨rfl,I.turned (t':=s.toks) (fun b o hb e=>eb b o hb e) f0 f1 f3 f4 f5⟩
 self:=fun _ _ _ _ _ st h=>wpAny_pyIter_keyiter st h
def NJ(X:Cx)(td:TE):TI:=fun σ H R=>td σ H fun x H1=>∃d kvs,x=.ref d∧H1 d=some (.dT kvs)∧∀o,y_ X d→R (He d o kvs) (upd H1 d (.mQ o (.dT kvs)))
theorem ze{l:Expr}{td:TE}(hl:PE X l td):PI X tg l (NJ X td):=by
 intro c_ s σ H R I h
 refine i3 (hl c_ s σ H _ I h) fun v s1 ⟨x,H1,I1,r1,q1⟩=>?_
 obtain⟨d,kvs,e,hd,q⟩:=q1
 subst e
 cases r1
 have nf:=I1.ND hd True.intro
 obtain⟨o,ho,I2⟩:=I1.frozen hd True.intro
 obtain⟨hs,_,es,ep,raw,sz,_⟩:=zd (I1.iH d _ hd)
 obtain⟨o',om,h2,h3⟩:=id raw
 rw[ho] at om;cases om
 refine DD hs raw ?_
 refine⟨s1.heap.objs.size,[s1.heap.objs.size],_,_,_,rfl,I2.kept (t':=s1.toks) fun b o e=>aac _ e,Fn d _ o es ep kvs h3 sz,⟨_,aaz _ rfl,rfl,rfl⟩,fun b hb=>?_,q o nf⟩
 have e:b=s1.heap.objs.size:=by simpa using hb
 subst e
 exact I2.yf (U0 _) (I2.iH.fresh (U0 _))
theorem Bh{d:Addr}{o:Obj}{kvs:List (List Key×V)}{g:TG}{tb:TS}{D:Ends}{σ:St}{H:Hp}(Pv:Nat→St→Hp→Prop)(h0:Pv 0 σ H)(hl:∀i σ H,Pv i σ H→H d=some (.mQ o (.dT kvs)))
  (hs:∀i k v b σ H,kvs[i]?=some (k,v)→H b=some (.tup (k.map kV))→Pv i σ H→g (.ref b) σ H fun σ2 H2=>tb {D with nx:=Pv (i+1),ct:=Pv (i+1),bk:=D.nx} σ2 H2) (hd:∀σ H,Pv kvs.length σ H→D.nx σ H) :
  ∃W:Nat→Nat→St→Hp→Prop,(∃m,W 0 m σ H)∧∀i m σ H,W i m σ H→
   ((He d o kvs).stop i H∧D.nx σ H)∨((He d o kvs).go i H∧∃N:St→Hp→Prop,(∀σ' H',N σ' H'→∃m',m'<m∧W (i+1) m' σ' H')∧∀x H',(He d o kvs).Ij i H x H'→g x σ H' fun σ2 H2=>tb {D with nx:=N,ct:=N,bk:=D.nx} σ2 H2):=by
 refine⟨fun i m σ H=>m=kvs.length-i∧i≤kvs.length∧Pv i σ H,⟨kvs.length,by simp,aaK _,h0⟩,?_⟩
 rintro i m σ H ⟨rfl,hi,p⟩
 have q:=hl i σ H p
 by_cases lq:i<kvs.length
 ·refine .inr ⟨⟨q,lq⟩,Pv (i+1),fun σ' H' p'=>⟨kvs.length-(i+1),by omega,rfl,lq,p'⟩,fun x H' y=>?_⟩
  obtain⟨e,k,v,b,y,rfl,hb⟩:=y
  subst e
  exact hs i k v b σ _ y hb p
 ·have e:i=kvs.length:=by omega
  subst e
  exact .inl ⟨⟨q,U0 _⟩,hd σ H p⟩
theorem Jc{d:Addr}{o:Obj}{kvs:List (List Key×V)}{g:TG}{tt:TT}{te:TE}{Q:List V→Hp→Prop}{σ:St}{H:Hp}(hn:kvs.length≤sizeLine)(Pv:Nat→List V→St→Hp→Prop)(h0:Pv 0 [] σ H)(hl:∀i ys σ H,Pv i ys σ H→H d=some (.mQ o (.dT kvs))∧ys.length≤i)
  (hs:∀i k v b ys σ H,kvs[i]?=some (k,v)→H b=some (.tup (k.map kV))→Pv i ys σ H→g (.ref b) σ H fun σ2 H2=>tt σ2 H2 fun c H3=>if c=true then te σ2 H3 fun v H4=>Pv (i+1) (ys++[v]) σ2 H4 else Pv (i+1) ys σ2 H3)
  (hd:∀ys σ H,Pv kvs.length ys σ H→Q ys H):Fi g tt te (He d o kvs) Q σ H:=by
 refine⟨fun i m ys σ H=>m=kvs.length-i∧i≤kvs.length∧Pv i ys σ H,⟨kvs.length,by simp,aaK _,h0⟩,?_⟩
 rintro i m ys σ H ⟨rfl,hi,p⟩
 obtain⟨q,hy⟩:=hl i ys σ H p
 by_cases lq:i<kvs.length
 ·refine .inr ⟨⟨q,lq⟩,by omega,Pv (i+1),fun ON σ' H' p'=>⟨kvs.length-(i+1),by omega,rfl,lq,p'⟩,fun x H' y=>?_⟩
  obtain⟨e,k,v,b,y,rfl,hb⟩:=y
  subst e
  exact hs i k v b ys σ _ y hb p
 ·have e:i=kvs.length:=by omega
  subst e
  exact .inl ⟨⟨q,U0 _⟩,by omega,hd ys σ H p⟩
end
section
variable{P:Program}{w:World}{d it:Addr}{es:Array DictEntry}{ep:Nat}
theorem Hf{A:Around}(hh:A.handled=none)(qA:d≠it):Walks P w A it [it,d] [it] es.size (fun i v=>∃y,es[i]?=some y∧v=y.key) (fun i h=>h.IsKeyIter it d i es.size ep∧wq h d es ep) where
 sub:=fun b hb=>by rw[US.mp hb];exact aav
 frame:=fun i h h' ⟨a,b⟩ hk=>⟨a.at fun o e=>hk it aav o e,b.at fun o e=>hk d (by simp) o e⟩
 item:=fun i s Q E hi ⟨a,b⟩ hQ=>DE a b (aaY hi) fun h' a' sb=>hQ _ h' s.toks ⟨_,aaY hi,rfl⟩ ⟨a',b.at fun o e=>sb.extBut d o qA e⟩ fun b o hb e=>sb.extBut b o (fun z=>hb (by rw[z];exact US.mpr rfl)) e
 done:=fun s Q E ⟨a,b⟩ hQ=>DG hh a b (U0 _) fun h' eb=>hQ h' s.toks fun b o hb e=>eb b o (fun z=>hb (by rw[z];exact US.mpr rfl)) e
 self:=fun i s Q E ⟨a,_⟩ hQ=>wpAny_pyIter_keyiter a hQ
theorem K7(lo:(d ==sysModules)=false):W.KdlSrc P w "dict" d d es.size (fun i v=>∃y,es[i]?=some y∧v=y.key) (fun h=>wq h d es ep) where
 type:=fun s r=>r.ty
 there:=fun h ⟨o,e,_⟩=>⟨aax e,aax e⟩
 keep:=fun h h' r hk=>r.at fun o e=>hk d (.inl rfl) o e
 notList:=by decide
 notTuple:=by decide
 hint:=fun A E s Q r hq=>W.kdl_hint_dict r.ty hq
 iter:=fun A s hh r=>⟨_,_,(fun E Q hq=>DD lo r hq),Hf hh (by obtain⟨o,e,_⟩:=r;exact aaW (aax e)),⟨⟨_,aaz _ rfl,rfl,rfl⟩,r.at fun o e=>aac _ e⟩⟩
end
section
variable{X:Cx}{c_:Qqz}{σ:St}{H:Hp}{s:Shared}
theorem yh(hc:X.calm=true):uK X (.type "list") (fun xs H Q=>∃d kvs,xs=[V.ref d]∧H d=some (.dT kvs)∧∀p bs,H p=none→Paired (fun(kv:List Key×V) (b:Addr)=>H b=some (.tup (kv.1.map kV))) kvs bs→Q (.ref p) (upd H p (.lst (bs.map V.ref)))):=by
 intro c_ s σ H xs us Q I r h
 obtain⟨d,kvs,rfl,hd,q⟩:=h
 obtain⟨u,rfl,ru⟩:=vals1 r
 cases (show u=Value.ref d from ru)
 obtain⟨hs,hz,es,ep,raw,sz,PJ⟩:=zd (I.iH d _ hd)
 refine W.kdl_call (K7 hs) (I.ok.hd hc) raw (by omega) fun h' tk acc c hk hS vP=>?_
 have hf:H s.heap.objs.size=none:=I.iH.fresh (U0 _)
 have hb:∀i:Nat,i<kvs.length→∃k v b,kvs[i]?=some (k,v)∧(es[i]?.map DictEntry.key)=some (Value.ref b)∧H b=some (.tup (k.map kV)):=fun i hi=>by
  have AW:i<es.size:=by omega
  obtain⟨k,v,b,e1,e2,e3,_⟩:=PJ i es[i] (aaY AW)
  exact⟨k,v,b,e1,by rw[aaY AW,ab9,e2],e3⟩
 let adr:Value→Addr:=fun v=>match v with|.ref b=>b|_=>0
 let bs:List Addr:=es.toList.map fun y=>adr y.key
 have Mz:bs.length=kvs.length:=by show(es.toList.map _).length=_;rw[RK,aa9];exact sz
 have Yx:∀(i:Nat)(b:Addr),bs[i]?=some b→∃k v,kvs[i]?=some (k,v)∧es[i]?.map DictEntry.key=some (Value.ref b)∧H b=some (.tup (k.map kV)):=fun i b e=>by
  have hi:i<kvs.length:=by rw[←Mz];exact(RO.mp e).1
  obtain⟨k,v,b',e1,e2,e3⟩:=hb i hi
  have:bs[i]?=some b':=by
   show(es.toList.map _)[i]?=_
   rw[aak,aa8]
   obtain⟨y,ey,e4⟩:=aaF.mp e2
   rw[ey]
   show some (adr y.key)=_
   rw[e4]
  rw[this] at e
  cases e
  exact⟨k,v,e1,e2,e3⟩
 have rel:Vals (bs.map V.ref) acc.toList:=by
  refine pA (by have e1:=vP.1;have e2:acc.toList.length=acc.size:=aa9;rw[RK,Mz];omega) fun i a b ha hb=>?_
  rw[aak] at ha
  obtain⟨b',e,rfl⟩:=aaF.mp ha
  obtain⟨k,v,_,e2,_⟩:=Yx i b' e
  obtain⟨y,hy,hv⟩:=vP.2 i b (by rw[←aa8];exact hb)
  rw[hy,ab9] at e2
  show b=.ref b'
  rw[hv,aaD e2]
 refine⟨.ref s.heap.objs.size,upd H s.heap.objs.size (.lst (bs.map V.ref)),I.laid (t':=tk) hk (U0 _) ?_,rfl,q _ bs hf (pA Mz.symm fun i a b ha hb=>?_)⟩
 ·exact⟨by rw[RK,Mz];exact hz,acc.toList,c,rel,by rw[Array.toArray_toList];exact hS⟩
 ·obtain⟨k,v,e1,_,e3⟩:=Yx i b hb
  rw[e1] at ha
  cases ha
  exact e3
end
section
variable{P:Program}{w:World}{κ:Type}[DecidableEq κ]{knd:HeapKind P w κ}{A:Around}{E:Qqq}{s:Shared}{d a:Addr}{xs:List (κ×Addr×Value)}{k:κ}
theorem Jd{v:Value}{Q:Unit→Shared→Prop}(hu:knd.room A)(hk:knd.is s.heap k a)(m:s.heap.DictOfH knd d xs)(hz:xs.length≤sizeLine)
  (q:∀h',h'.DictOfH knd d (storedH xs k a v)→Heap.SameBut d s.heap h'→Q () {s with heap:=h'}):wpAny (model P w) A (dictSetHashed d (.ref a) (knd.hash k) v) Q E s:=by
 obtain⟨o,es,ep,ho,hc,hd,he,PL,hn⟩:=m
 have sz:=acd he
 unfold dictSetHashed
 try with_reducible refine abG ?_
 refine UP (wpAny_dictFind_heap hu hk ho hd he PL hn (fun no=>?_) fun j p hj=>?_)
 ·have at0:=atKey_none_of_get no
  refine UP (wpAny_rule (wpAny_updateDictKeys (hz:=by omega) ho hd (q _ ?_ (abk ..))))
  rw[storedH_new at0]
  refine⟨_,_,ep+1,aa_ _ ho (Obj.isFreed_of_dict (Obj.data_mapDictKeys hd _)),hc.mapDictKeys _,Obj.data_mapDictKeys hd _,by simp[he,entryOfKey],fun x hx=>?_,?_⟩
  ·refine knd.keeps ?_ ho hd (abk ..)
   rcases XX.mp hx with hx|hx
   ·exact PL x hx
   ·rw[US.mp hx];exact hk
  ·rw[aau,aa2]
   exact⟨hn,by simp,fun x hx y hy z=>not_mem_keys_of_get no (by rw[US.mp hy] at z;have z:x=k:=z;exact z▸hx)⟩
 ·have at1:=atKey_of_get hn hj
  refine UP (wpAny_rule (UP (wpAny_updateDict ho hd (wpAny_point (q _ ?_ (abk ..))))))
  rw[storedH_old at1]
  refine⟨_,_,ep,aa_ _ ho (Obj.isFreed_of_dict (Obj.data_mapDict hd _)),hc.mapDict _,Obj.data_mapDict hd _,?_,fun x hx=>?_,by rw[keys_map_putAt];exact hn⟩
  ·have z:=modify_map_putAt (entryOfKey knd) (fun e:DictEntry=>{e with val:=v}) k v (fun _ _=>rfl) hn hj
   rw[←he] at z
   obtain⟨l⟩:=es
   simpa using z
  ·obtain⟨y,hy,rfl⟩:=aaH.mp hx
   unfold putAt
   split<;>exact knd.keeps (PL y hy) ho hd (abk ..)
noncomputable def DH(xs:List (κ×Addr×Value))(k:κ):List (κ×Addr×Value):=xs.filter fun x=>decide (x.1≠k)
theorem Fo{β:Type}(f:κ×Addr×Value→β):∀{xs:List (κ×Addr×Value)} {j:Nat} {p:Addr×Value},(xs.map (·.1)).Nodup→xs[j]?=some (k,p)→(xs.map f).eraseIdx j=(DH xs k).map f:=by
 intro xs
 induction xs with
 | nil=>intro j p _ hj;simp at hj
 | cons x r ih=>
  intro j p hn hj
  rw[aaw,aaX] at hn
  unfold DH
  cases j with
  | zero=>
   simp at hj
   have e:r.filter (fun x=>decide (x.1≠k))=r:=List.filter_eq_self.mpr fun y hy=>XU fun z=>hn.1 (by rw[hj];show k∈_;rw[←z];exact aaa hy)
   rw[aaj (by rw[hj];simp),e]
   rfl
  | succ j=>
   have hj:r[j]?=some (k,p):=by simpa using hj
   have ne:x.1≠k:=fun z=>hn.1 (by rw[z];exact aaH.mpr ⟨_,VI hj,rfl⟩)
   rw[XZ (by simpa using ne),aaw,aaw,List.eraseIdx_cons_succ,ih hn.2 hj]
   rfl
theorem Je{p:Addr×Value}{Q:Option DictEntry→Shared→Prop}(hu:knd.room A)(hk:knd.is s.heap k a)(m:s.heap.DictOfH knd d xs)(hz:xs.length≤sizeLine)(hp:atKey xs k=some p)
  (q:∀h',h'.DictOfH knd d (DH xs k)→Heap.SameBut d s.heap h'→Q (some ⟨knd.hash k,.ref p.1,p.2⟩) {s with heap:=h',toks:=s.toks+knd.draws k}):wpAny (model P w) A (Builtin.Dict.takeOut d (.ref a)) Q E s:=by
 obtain⟨o,es,ep,ho,hc,hd,he,PL,hn⟩:=m
 have sz:=acd he
 unfold Builtin.Dict.takeOut
 try with_reducible refine abG ?_
 refine UP (knd.pyHash hu hk (UP (wpAny_dictFind_heap (s:={s with toks:=s.toks+knd.draws k}) hu hk ho hd he PL hn (fun no=>?_) fun j p' hj=>?_)))
 ·rw[atKey_none_of_get no] at hp;cases hp
 ·have e:=atKey_of_get hn hj
  rw[hp] at e
  cases e
  refine UP (abd (s:={s with toks:=s.toks+knd.draws k}) ho hd ?_)
  rw[entry_at he j,hj]
  refine UP (wpAny_updateDictKeys (hz:=by omega) (s:={s with toks:=s.toks+knd.draws k}) ho hd (aab (q _ ?_ (abk ..))))
  refine⟨_,_,ep+1,aa_ _ ho (Obj.isFreed_of_dict (Obj.data_mapDictKeys hd _)),hc.mapDictKeys _,Obj.data_mapDictKeys hd _,?_,fun x hx=>knd.keeps (PL x (aaq.mp hx).1) ho hd (abk ..),(aaV.map _).nodup hn⟩
  have z:=Fo (k:=k) (entryOfKey knd) hn hj
  rw[←he] at z
  rw[←z]
  obtain⟨l⟩:=es
  simp
noncomputable def kJ(xs more:List (κ×Addr×Value)):List (κ×Addr×Value):=more.foldl (fun acc x=>storedH acc x.1 x.2.1 x.2.2) xs
theorem DI{xs more:List (κ×Addr×Value)}{i:Nat}{x:κ×Addr×Value}(h:more[i]?=some x):kJ xs (more.take (i+1))=storedH (kJ xs (more.take i)) x.1 x.2.1 x.2.2:=by
 unfold kJ
 rw[List.take_add_one,h,List.foldl_append]
 rfl
theorem DJ(xs:List (κ×Addr×Value))(k:κ)(a:Addr)(v:Value):(storedH xs k a v).length≤xs.length+1:=by
 unfold storedH
 split
 ·rw[RK];omega
 ·rw[UZ];exact U0 _
theorem Fp(xs:List (κ×Addr×Value)):∀more:List (κ×Addr×Value),(kJ xs more).length≤xs.length+more.length:=by
 intro more
 unfold kJ
 induction more generalizing xs with
 | nil=>exact U0 _
 | cons x r ih=>
  have h1:=ih (storedH xs x.1 x.2.1 x.2.2)
  have h2:=DJ xs x.1 x.2.1 x.2.2
  rw[List.foldl_cons,aae]
  omega
theorem Fq{nm:String}{o:Addr}{more:List (κ×Addr×Value)}{Q:Unit→Shared→Prop}(hu:knd.room A)(ne:d≠o)(lo:(o ==sysModules)=false)(qA:xs≠[])(md:s.heap.DictOfH knd d xs)(mo:s.heap.DictOfH knd o more)(hz:xs.length+more.length≤sizeLine)
  (q:∀h',h'.DictOfH knd d (kJ xs more)→Heap.SameBut d s.heap h'→Q () {s with heap:=h'}):wpAny (model P w) A (Builtin.Dict.mergeDict nm d o) Q E s:=by
 obtain⟨od,Tj,epd,Tn,BE,PN,RF,Tg,Kv⟩:=id md
 obtain⟨oo,HN,epo,To,hco,J6,JW,hio,Yk⟩:=id mo
 have szo:=acd JW
 have Yy:=acd RF
 unfold Builtin.Dict.mergeDict Builtin.Dict.showsAll
 rw[aan (by simpa using ne),lo,aan (fun z=>by cases z)]
 refine UP (aab (UP (abd To J6 ?_)))
 dsimp only
 have loop:wpAny (model P w) A (do
   let RG ←dictEpoch o
   let l ←dictEntries o
   forIn [:l.size] PUnit.unit fun i (_:PUnit)=>(do
     let l' ←dictEntries o
     match l'[i]? with
      | some e=>do
       holding [e.key,e.val] (dictSetHashed d e.key e.hash e.val)
       let Mu ←dictEpoch o
       if(Mu != RG)=true then do (unsupported (toString nm++toString ":source-changed-during-callback"):Sem PUnit);pure (ForInStep.yield PUnit.unit)
        else pure (ForInStep.yield PUnit.unit)
      | _=>do (unsupported "internal:dict-merge":Sem PUnit);pure (ForInStep.yield PUnit.unit):Sem (ForInStep PUnit))
   pure ()) Q E s:=by
  refine UP (wpAny_dictEpoch To J6 (UP (abd To J6 (UP ?_))))
  rw[Std.Legacy.Range.forIn_eq_forIn_range']
  simp only [Std.Legacy.Range.size,Nat.sub_zero,Nat.add_sub_cancel,Nat.div_one]
  refine wpAny_forIn_list _ (fun rest _ s'=>∃h' i,s'={s with heap:=h'}∧rest=List.range' i (HN.size-i)∧i≤HN.size∧h'.DictOfH knd d (kJ xs (more.take i))∧Heap.SameBut d s.heap h') _ ?_ ?_ _ _ ⟨s.heap,0,rfl,by simp,aaK _,by simpa[kJ] using md,Heap.SameBut.refl _ _⟩
  ·rintro x rest b s' ⟨h',i,rfl,hr,hi,hm,hs⟩
   have lq:i<HN.size:=by
    rcases Nat.lt_or_ge i HN.size with z|z
    ·exact z
    ·rw[Nat.sub_eq_zero_of_le z] at hr;simp at hr
   obtain⟨ex,er⟩:x=i∧rest=List.range' (i+1) (HN.size-(i+1)):=by
    rw[show HN.size-i=(HN.size-(i+1))+1 by omega,aci] at hr
    exact List.cons.inj hr
   subst ex
   have RH:h'.get? o=some oo:=(hs.2 o (abQ ne)).trans To
   refine UP (abd RH J6 ?_)
   obtain⟨⟨k,b2,v⟩,hx⟩:∃y,more[x]?=some y:=⟨more[x]'(by omega),VN _⟩
   rw[entry_at JW x,hx]
   show wpAny _ _ (holding [Value.ref b2,v] (dictSetHashed d (.ref b2) (knd.hash k) v) >>= _) _ _ _
   have hl:(kJ xs (more.take x)).length≤sizeLine:=by
    have:=Fp xs (more.take x)
    rw[aap] at this
    omega
   have hib:knd.is h' k b2:=knd.keeps (hio _ (VI hx)) Tn PN hs
   refine UP (abG (Jd (s:={s with heap:=h'}) hu hib hm hl fun h2 m2 s2=>?_))
   refine UP (wpAny_dictEpoch ((s2.2 o (abQ ne)).trans RH) J6 ?_)
   rw[aan (by simp)]
   exact aab ⟨h2,x+1,rfl,er,lq,by rw[DI hx];exact m2,hs.trans s2⟩
  ·rintro b s' ⟨h',i,rfl,hr,hi,hm,hs⟩
   have e:i=HN.size:=by
    rcases Nat.lt_or_ge i HN.size with z|z
    ·rw[show HN.size-i=(HN.size-(i+1))+1 by omega,aci] at hr;cases hr
    ·omega
   refine aab (q h' ?_ hs)
   rw[e,szo,aaf] at hm
   exact hm
 split
 ·refine UP (abd Tn PN ?_)
  rw[aan (fun z=>?_)]
  ·exact loop
  ·have:Tj=#[]:=Array.isEmpty_iff.mp z
   rw[this] at Yy
   exact qA (aaO.mp Yy.symm)
 ·exact loop
theorem Jf{o:Addr}{more:List (κ×Addr×Value)}{Q:Qqq}(hu:knd.room A.in1)(ne:d≠o)(lo:(o ==sysModules)=false)(qA:xs≠[])(md:s.heap.DictOfH knd d xs)(mo:s.heap.DictOfH knd o more)(hz:xs.length+more.length≤sizeLine)
  (q:∀h',h'.DictOfH knd d (kJ xs more)→Heap.SameBut d s.heap h'→Q .none {s with heap:=h'}):wpAny (model P w) A (call (.builtin "dict.update") [.ref d,.ref o]) Q E s:=by
 refine abN abY md.typeIs PySem.F.entry_dict_update ?_ (PySem.F.args_dict_update_2 _ _)
 unfold Builtin.«dict.update» Builtin.Dict.selfAndRest
 refine UP (UP (wpAny_notOrdered_dict md.typeIs (show wpAny _ _ (pure (d,[Value.ref o])) _ _ s from aab ?_)))
 show wpAny _ _ (Builtin.Dict.updateFrom "dict.update" d (.ref o) [] .none) _ _ s
 unfold Builtin.Dict.updateFrom
 refine UP (wpAny_typeOf mo.typeIs ?_)
 rw[aan (by decide)]
 unfold Builtin.Dict.merge Builtin.Dict.readDirectly
 refine UP (UP (UP (wpAny_isInstance mo.typeIs isSubtype_dict_dict ?_)))
 simp only [Bool.not_true,aa3,abZ]
 refine UP (aca mo.typeIs F.slot_dict_iter.lookup (aab ?_))
 simp only [beq_self_eq_true,if_true]
 refine UP (aab (Fq hu ne lo qA md mo hz fun h' m s'=>?_))
 show wpAny _ _ (Builtin.Dict.addKeywords d [] >>= _) _ _ _
 exact UP (aab (aab ⟨.none,rfl,q h' m s'⟩))
end
noncomputable def putAll{κ:Type}[DecidableEq κ](kvs more:List (κ×V)):List (κ×V):=more.foldl (fun acc kv=>putK acc kv.1 kv.2) kvs
section
variable{κ:Type}[DecidableEq κ]
theorem rj(kvs:List (κ×V))(p:κ×V)(r:List (κ×V)):putAll kvs (p::r)=putAll (putK kvs p.1 p.2) r:=rfl
theorem p7:∀(more kvs:List (κ×V)),(putAll kvs more).length≤kvs.length+more.length
 | [],kvs=>U0 _
 | p::r,kvs=>by
  have h1:=p7 r (putK kvs p.1 p.2)
  have h2:=ju kvs p.1 p.2
  rw[rj,aae]
  omega
theorem kt_merged{H:Hp}{more:List (List Key×V)}{ys:List (List Key×Addr×Value)}(r:KT H more ys):∀{kvs:List (List Key×V)} {xs:List (List Key×Addr×Value)},KT H kvs xs→KT H (putAll kvs more) (kJ xs ys):=by
 induction r with
 | nil=>intro kvs xs r;exact r
 | @cons p q ps qs f t ih=>
  intro kvs xs r
  have z:=r.put p.1 (b:=q.2.1) f.2.1 f.2.2
  have z2:=ih z
  rw[show kJ xs (q::qs)=kJ (storedH xs q.1 q.2.1 q.2.2) qs from rfl,←show p.1=q.1 from f.1]
  exact z2
theorem Hg{more:List (κ×V)}{ys:List (κ×Value)}(r:KV more ys):∀{kvs:List (κ×V)} {xs:List (κ×Value)},KV kvs xs→KV (putAll kvs more) (merged xs ys):=by
 induction r with
 | nil=>intro kvs xs r;exact r
 | @cons p q ps qs f t ih=>
  intro kvs xs r
  have z:=ih (KV.put r p.1 f.2)
  rw[show merged xs (q::qs)=merged (stored xs q.1 q.2) qs from rfl,←show p.1=q.1 from f.1]
  exact z
end
section
variable{X:Cx}{c_:Qqz}{σ:St}{H:Hp}{s:Shared}{a b:Addr}{A:Around}{E:Qqq}
theorem K8{kvs:List (List Key×V)}{xs:List (List Key×Addr×Value)}(r:KT H kvs xs)(k:List Key):KT H (jX kvs k) (DH xs k):=by
 induction r with
 | nil=>exact .nil
 | @cons p q ps qs f t ih=>
  unfold jX DH
  by_cases e:p.1=k
  ·have e':q.1=k:=f.1.symm.trans e
   rw[aaj (by simp[e]),aaj (by simp[e'])]
   exact ih
  ·have e':¬q.1=k:=fun z=>e (f.1.trans z)
   rw[XZ (by simp[e]),XZ (by simp[e'])]
   exact .cons f ih
theorem NK{kvs more:List (List Key×V)}{Q:Qqq}(hu:A.units+1<cLine)(I:Inv X c_ σ H s)(ha:H a=some (.dT kvs))(hb:Rd H b (.dT more))(ne:a≠b)(h0:kvs≠[])(hz:kvs.length+more.length≤sizeLine)
  (h:∀s',Inv X c_ σ (upd H a (.dT (putAll kvs more))) s'→Q .none s'):wpAny (model X.prog X.w) A (call (.builtin "dict.update") [.ref a,.ref b]) Q E s:=by
 obtain⟨z,lo,xs,rel,dd⟩:=IB I.iH ha
 obtain⟨z2,VD,ys,J7,Tf⟩:=xk I.iH hb
 have l1:=aao rel
 have l2:=aao J7
 have x0:xs≠[]:=fun e=>h0 (aaO.mp (by rw[l1,e];rfl))
 refine Jf (abC hu) ne VD x0 dd Tf (by omega) fun h' m hs=>h _ ?_
 obtain⟨q,es,ep,hq,h2,h3,h4,_,h5⟩:=m
 refine sH (t':=s.toks) I (by rw[ha];exact True.intro) hs ⟨q,hq⟩ ⟨aad (p7 _ _) hz,lo,_,(kt_merged J7 rel).keeps fun c ys ec=>?_,q,es,ep,hq,h2,h3,h4,h5⟩
 rw[d_ (i9 ec ha (fun z=>nomatch z))]
 exact ec
theorem NL{kvs more:List (Key×V)}{Q:Qqq}(I:Inv X c_ σ H s)(ha:H a=some (.dK kvs))(hb:Rd H b (.dK more))(ne:a≠b)(hz:kvs.length+more.length≤sizeLine)
  (h:∀s',Inv X c_ σ (upd H a (.dK (putAll kvs more))) s'→Q .none s'):wpAny (model X.prog X.w) A (call (.builtin "dict.update") [.ref a,.ref b]) Q E s:=by
 obtain⟨z,lo,xs,rel,dd⟩:=IA I.iH ha
 obtain⟨z2,VD,ys,J7,Tf⟩:=xj I.iH hb
 have l1:=rel.length
 have l2:=J7.length
 refine call_meetsIn abY dd.typeIs PySem.F.entry_dict_update (PySem.F.args_dict_update_2 _ _) (meets_dict_update (jb X.prog X.w) a b ne VD) ⟨xs,ys,dd,Tf,by omega,fun h' Ku _ hs=>h _ ?_⟩
 have he:∃q,h'.get? a=some q:=let ⟨q,_,_,hq,_⟩:=Ku;⟨q,hq⟩
 exact sH (t':=s.toks) I (by rw[ha];exact True.intro) hs he (Fg (aad (p7 _ _) hz) lo (Hg J7 rel) Ku)
theorem NM{kvs:List (List Key×V)}{k:List Key}{v:V}{Q:Qqq}(hu:A.units+1<cLine)(I:Inv X c_ σ H s)(ha:H a=some (.dT kvs))(hb:H b=some (.tup (k.map kV)))(l:iO kvs k=some v)
  (h:∀w' s',Inv X c_ σ (upd H a (.dT (jX kvs k))) s'→RelV v w'→Q w' s'):wpAny (model X.prog X.w) A (call (.builtin "dict.pop") [.ref a,.ref b]) Q E s:=by
 obtain⟨z,lo,xs,rel,dd⟩:=IB I.iH ha
 have l1:=aao rel
 obtain⟨w',hw,AV⟩:=pq.some_of (v:=v) (o:=(atKey xs k).map (·.2)) (by rw[←l];exact rel.val k)
 obtain⟨p,hp,AA⟩:=aaF.mp hw
 obtain⟨od,Tj,epd,Tn,BE,PN,RF,Tg,Kv⟩:=id dd
 refine abN ab_ dd.typeIs PySem.F.entry_dict_pop ?_ (PySem.F.args_dict_pop_2 _ _)
 unfold Builtin.«dict.pop» Builtin.Dict.keyAndDefault
 refine UP (UP (wpAny_notOrdered_dict dd.typeIs (show wpAny _ _ (pure (a,Value.ref b,none)) _ _ s from aab ?_)))
 have part:(keyPart (Value.ref b)).isSome=false:=rfl
 simp only [part,aa3,abZ]
 refine UP (abd Tn PN (UP (aab ?_)))
 have ne:Tj.isEmpty=false:=by
  rw[abc]
  intro e
  have e:Tj=#[]:=Array.isEmpty_iff.mp e
  have sz:=acd RF
  rw[e] at sz
  have:xs=[]:=aaO.mp sz.symm
  rw[this] at hp
  cases hp
 simp only [ne,aa3,abZ]
 refine UP (Je (abC hu) (t9 I.iH hb) dd (by omega) hp fun h' m hs=>?_)
 simp only [Option.isNone_some,aa3,abZ]
 refine UP (wpAny_letGo (aab ⟨p.2,rfl,?_⟩))
 rw[AA]
 refine h w' _ ?_ AV
 obtain⟨q,es,ep,hq,h2,h3,h4,_,h5⟩:=m
 refine sH I (by rw[ha];exact True.intro) hs ⟨q,hq⟩ ⟨aad (Du _ _) z,lo,_,(K8 rel k).keeps fun c ys ec=>?_,q,es,ep,hq,h2,h3,h4,h5⟩
 rw[d_ (i9 ec ha (fun z=>nomatch z))]
 exact ec
theorem K9{d:Addr}{es:Array DictEntry}{ep:Nat}{Q:Qqq}{P:Program}{w:World}(lo:(d ==sysModules)=false)(r:wq s.heap d es ep)(fit:(es.size:Int)<2 ^ 63)
  (h:Q (.int es.size (s.toks+1)) {s with toks:=s.toks+1+1}):wpAny (model P w) A (Builtin.«len» ⟨[.ref d],[]⟩) (fun fin s'=>∃r,fin=.done (.ret r)∧Q r s') E s:=by
 obtain⟨o,ho,hc,hd⟩:=id r
 unfold Builtin.«len»
 refine UP (m:=oneArg "len" _) (aab (UP (m:=callSpecial? (.ref d) (Str.ofString "__len__")) (wpAny_callSpecial?_slot (name:=Str.ofString "__len__") r.ty F.slot_dict_len (abN F.slot_dict_len r.ty F.entry_dict_len ?_ (F.args_dict_len_1 _)))))
 show wpAny _ _ (dictSize d >>= _) _ _ s
 unfold dictSize
 refine UP (UP (abd ho hd (aab ?_)))
 show wpAny _ _ (Builtin.Dict.pendingCount d >>= _) _ _ s
 refine UP (wpAny_pendingCount_other lo (wpAny_ret_mkInt ?_))
 show wpAny _ _ _ _ _ {s with toks:=s.toks+1}
 refine UP (abG (aab (UP (wpAny_letGo ?_))))
 show wpAny _ _ (if((es.size+0:Nat):Int)<0 then _ else _) _ _ _
 rw[aan (by omega),Nat.add_zero]
 show wpAny _ _ (if((es.size:Nat):Int)≥2 ^ 63 then _ else _) _ _ _
 rw[aan (by omega)]
 exact UP (wpAny_mkInt (aab ⟨_,rfl,h⟩))
theorem Fs{d:Addr}{es:Array DictEntry}{ep:Nat}{Q:Bool→Shared→Prop}{P:Program}{w:World}(lo:(d ==sysModules)=false)(r:wq s.heap d es ep)(fit:(es.size:Int)<2 ^ 63)
  (h:Q ((es.size:Int) != 0) {s with toks:=s.toks+1+1}):wpAny (model P w) A (truthy (.ref d)) Q E s:=by
 have key:wpAny (model P w) A (runValue (.builtin "len" ⟨[.ref d],[]⟩)) (fun r s'=>r=.int es.size (s.toks+1)∧Q ((es.size:Int) != 0) s') E s:=by
  refine wpAny_runValue (codeAny_builtin entry_len ?_)
  rw[Around.under_plainId plain_len _]
  refine abp (K9 (Q:=fun r s'=>r=.int es.size (s.toks+1)∧Q ((es.size:Int) != 0) s') lo r fit ⟨rfl,h⟩) (fun fin s' h'=>?_) fun _ _ e=>e
  obtain⟨r,rfl,hq⟩:=h'
  exact hq
 unfold truthy
 first
  | refine UP (wpAny_callSpecial?_none (name:=Str.ofString "__bool__") r.ty noBool_dict ?_)
  | refine UP (aab (UP (wpAny_callSpecial?_none (name:=Str.ofString "__bool__") r.ty noBool_dict ?_)))
 first
  | refine UP (aca (name:=Str.ofString "__len__") r.ty F.slot_dict_len.lookup ?_)
  | refine UP (aab (UP (aca (name:=Str.ofString "__len__") r.ty F.slot_dict_len.lookup ?_)))
 first
  | exact UP (abp key (fun r s' h'=>by obtain⟨rfl,hq⟩:=h';exact aab hq) fun _ _ e=>e)
  | exact UP (aab (UP (abp key (fun r s' h'=>by obtain⟨rfl,hq⟩:=h';exact aab hq) fun _ _ e=>e)))
end
def NN(td ty:TE):TE:=fun σ H Q=>td σ H fun x H1=>∃a,x=.ref a∧Po H1 a∧ty σ H1 fun y H2=>∃b kvs more,y=.ref b∧H2 a=some (.dT kvs)∧Rd H2 b (.dT more)∧a≠b∧kvs≠[]∧kvs.length+more.length≤sizeLine∧Q .jn (upd H2 a (.dT (putAll kvs more)))
def NO(td ty:TE):TE:=fun σ H Q=>td σ H fun x H1=>∃a,x=.ref a∧Po H1 a∧ty σ H1 fun y H2=>∃b kvs more,y=.ref b∧H2 a=some (.dK kvs)∧Rd H2 b (.dK more)∧a≠b∧kvs.length+more.length≤sizeLine∧Q .jn (upd H2 a (.dK (putAll kvs more)))
def NP(td ty:TE):TE:=fun σ H Q=>td σ H fun x H1=>∃a,x=.ref a∧Po H1 a∧ty σ H1 fun y H2=>∃b kvs k v,y=.ref b∧H2 a=some (.dT kvs)∧H2 b=some (.tup (k.map kV))∧iO kvs k=some v∧Q v (upd H2 a (.dT (jX kvs k)))
section
variable{X:Cx}{o e f:Expr}{apos kU:Pos}{td ty tx:TE}
theorem Jg(hu:X.A.units+1<cLine)(ho:PE X o td)(he:PE X e ty)(m:M1 X o "update" apos e kU):PE X (.Call (.Attribute o "update" apos) [e] [] kU) (NN td ty):=by
 intro c_ s σ H Q I h
 refine wpAny_Call_method m.base m.jQ m.line abH abY PySem.F.type_dict_update (i3 (ho c_ s σ H _ I h) fun u s1 ⟨x,H1,I1,rx,a,ex,d,q1⟩=>?_)
 subst ex
 obtain rfl:u=Value.ref a:=rx
 obtain⟨t1,t2,_⟩:=yX I1 d
 refine⟨t1,t2,?_⟩
 rw[m.trees]
 refine abh rfl (abq (abf (i3 (he c_ s1 σ H1 _ I1 q1) fun iv s2 ⟨y,H2,I2,ry,b,kvs,more,ey,ha,hb,ne,h0,hz,q2⟩=>abv ?_)))
 subst ey
 obtain rfl:iv=Value.ref b:=ry
 exact NK hu I2 ha hb ne h0 hz fun s3 I3=>⟨.jn,_,I3,rfl,q2⟩
theorem Jh(ho:PE X o td)(he:PE X e ty)(m:M1 X o "update" apos e kU):PE X (.Call (.Attribute o "update" apos) [e] [] kU) (NO td ty):=by
 intro c_ s σ H Q I h
 refine wpAny_Call_method m.base m.jQ m.line abH abY PySem.F.type_dict_update (i3 (ho c_ s σ H _ I h) fun u s1 ⟨x,H1,I1,rx,a,ex,d,q1⟩=>?_)
 subst ex
 obtain rfl:u=Value.ref a:=rx
 obtain⟨t1,t2,_⟩:=yX I1 d
 refine⟨t1,t2,?_⟩
 rw[m.trees]
 refine abh rfl (abq (abf (i3 (he c_ s1 σ H1 _ I1 q1) fun iv s2 ⟨y,H2,I2,ry,b,kvs,more,ey,ha,hb,ne,hz,q2⟩=>abv ?_)))
 subst ey
 obtain rfl:iv=Value.ref b:=ry
 exact NL I2 ha hb ne hz fun s3 I3=>⟨.jn,_,I3,rfl,q2⟩
theorem Ji(hu:X.A.units+1<cLine)(ho:PE X o td)(he:PE X e ty)(m:M1 X o "pop" apos e kU):PE X (.Call (.Attribute o "pop" apos) [e] [] kU) (NP td ty):=by
 intro c_ s σ H Q I h
 refine wpAny_Call_method m.base m.jQ m.line abH ab_ PySem.F.type_dict_pop (i3 (ho c_ s σ H _ I h) fun u s1 ⟨x,H1,I1,rx,a,ex,d,q1⟩=>?_)
 subst ex
 obtain rfl:u=Value.ref a:=rx
 obtain⟨t1,t2,_⟩:=yX I1 d
 refine⟨t1,t2,?_⟩
 rw[m.trees]
 refine abh rfl (abq (abf (i3 (he c_ s1 σ H1 _ I1 q1) fun iv s2 ⟨y,H2,I2,ry,b,kvs,k,v,ey,ha,hb,l,q2⟩=>abv ?_)))
 subst ey
 obtain rfl:iv=Value.ref b:=ry
 exact NM hu I2 ha hb l fun w' s3 I3 AV=>⟨v,_,I3,AV,q2⟩
theorem Hh{a:Expr}{ta:TE}(ha:PE X a ta)(he:∀whole,isTrue a X.env whole=(do let v ←whole;standAt a.pos;holding [v] (truthy v))) :
  PT X a (fun σ H Q=>ta σ H fun x H'=>∃p kvs,x=.ref p∧H' p=some (.dT kvs)∧Q (!kvs.isEmpty) H'):=by
 intro c_ s σ H Q I h
 refine isTrue_plain (i3 (ha c_ s σ H _ I h) fun v s1 ⟨x,H1,I1,r1,p,kvs,ex,hp,q⟩=>?_) (he _)
 subst ex
 obtain rfl:v=Value.ref p:=r1
 obtain⟨lo,hz,es,ep,raw,sz,_⟩:=zd (I1.iH p _ hp)
 have hs:sizeLine=16777216:=sizeLine_eq
 refine Fs lo raw (by omega) ?_
 have e:((es.size:Int) != 0)=!kvs.isEmpty:=by rw[sz];cases kvs<;>simp<;>omega
 rw[e]
 exact⟨H1,I1.tok _,q⟩
end
theorem Hi:bootBuiltins "enumerate"=some (.type "enumerate"):=by decide+kernel
section
variable{X:Cx}{c_:Qqz}{σ:St}{H:Hp}{s:Shared}{h':Heap}
theorem Inv.K_{t':Nat}{a b:Addr}(I:Inv X c_ σ H s)(k:∀c o,c≠a→c≠b→s.heap.get? c=some o→h'.get? c=some o)(fa:tX X c_ H a)(fb:tX X c_ H b)
  (ha:∃o,h'.get? a=some o) (hb:∃o,h'.get? b=some o):Inv X c_ σ H {s with heap:=h',toks:=t'}:=by
 obtain⟨a0,a1,a2,a3,a4,a5⟩:=fa
 obtain⟨b0,b1,b2,b3,b4,b5⟩:=fb
 have na:∀c u,H c=some u→c≠a:=fun c u e z=>by rw[z,a0] at e;cases e
 have nb:∀c u,H c=some u→c≠b:=fun c u e z=>by rw[z,b0] at e;cases e
 have out:∀c,c∉[a,b]→c≠a∧c≠b:=fun c hc=>⟨fun z=>hc (by simp[z]),fun z=>hc (by simp[z])⟩
 refine I.step (g':=s.gens) (d':=s.drawn) (ch:=[a,b]) (fun c hc=>?_) (fun c o _ _ hc e _=>k c o (out c hc).1 (out c hc).2 e) (fun c o _ _ hc e _=>⟨o.slots,k c o (out c hc).1 (out c hc).2 e⟩) (fun _ _ _ _ n=>n)
  (fun c o hc e=>⟨o,k c o (out c hc).1 (out c hc).2 e⟩) (fun _ _ e=>e) (fun _ _ _ e=>e) (fun c ps e=>⟨#[],by rw[e];simp⟩) (fun m hm=>?_) (fun c u e=>?_) I.bare
 ·rcases XW.mp hc with z|z
  ·rw[z];exact⟨a3,a1,a4,a5⟩
  ·rw[US.mp z];exact⟨b3,b1,b4,b5⟩
 ·obtain⟨o,es,ep,ho,r⟩:=hm
  exact⟨o,es,ep,k _ o (abQ a1) (abQ b1) ho,r⟩
 ·refine(I.iH c u e).ye (fun d v hd q=>k d v ?_ ?_ q) (fun _ q=>q) fun _ _ q=>q
  ·rcases hd with z|z
   ·rw[z];exact na c u e
   ·exact na d _ z
  ·rcases hd with z|z
   ·rw[z];exact nb c u e
   ·exact nb d _ z
end
def QB(t:TT):TT:=fun σ H Q=>∃M:Bool→Hp→Prop,t σ H M∧∀b H',M b H'→Q b H'
theorem Jj{X:Cx}{e:Expr}{t:TT}(h:PT X e t):PT X e (QB t):=fun c_ s σ H Q I ⟨M,h1,h2⟩=>i3 (h c_ s σ H M I h1) fun b s' ⟨H',I',q⟩=>⟨H',I',h2 b H' q⟩
noncomputable def QC(K:Qqy)(a:Addr):It:=
 ⟨fun i H=>∃xs x,hV K H a xs∧xs[i]?=some x,fun i H x H'=>∃t y,H t=none∧x=.ref t∧H'=upd H t (.tup [.int i,y])∧∀xs,hV K H a xs→xs[i]?=some y,fun i H=>∃xs,hV K H a xs∧xs.length≤i⟩
theorem Hj{P:Program}{w:World}{K:Qqy}{elts:List Expr}{x1}{pos:Pos}(a e it:Addr)(qA:e≠it):Turn P w K (.Tuple elts x1 pos) (QC K a) [e,it] e (fun i h=>(∃old,IsEnum h e it ((i:Nat):Int) old)∧h.IsListIter it a i) where
 mem:=by simp
 obj:=fun i h ⟨⟨old,HM⟩,AU⟩ b hb=>by
  rcases XW.mp hb with z|z
  ·subst z;exact⟨_,HM,fun v z=>by have z':Data.fields _=Data.cell v:=z;cases z'⟩
  ·rw[US.mp z]
   obtain⟨o,ho,c,d⟩:=AU
   exact⟨o,ho,fun v z=>by rw[d] at z;cases z⟩
 keep:=fun i h h' ⟨⟨old,HM⟩,AU⟩ k=>⟨⟨old,k e (by simp) _ HM⟩,AU.at fun o ho=>k it (by simp) o ho⟩
 item:=by
  intro X hP hw hK hc i c_ s σ H E I hf ⟨⟨old,HM⟩,AU⟩ hg
  subst hP hw hK
  obtain⟨xs,x,hq,hx⟩:=hg
  obtain⟨hX,rv,p,hz⟩:=I.list hq
  obtain⟨u,hu,ru⟩:=rv.get hx
  have fe:=hf e (by simp)
  have fi:=hf it (by simp)
  have VE:e<s.heap.objs.size:=aax HM
  refine wpAny_pyNext_enum_item HM AU p.isList (x:=u) (by simpa using hu) qA fun h₁ JW VF ht₁ hz₁ hk₁=>?_
  refine⟨_,rfl,?_⟩
  refine wpAny_letOwnedTupleGo_enum JW fun h₂ Yz RI=>?_
  replace RI:Heap.SameBut e h₁ h₂:=RI
  have ht₂:h₂.get? s.heap.objs.size=some {cls:=.type "tuple",data:=.seq #[.int i s.toks,u]}:=(RI.2 _ (Nat.ne_of_gt VE)).trans ht₁
  have RJ:h₂.IsListIter it a (i+1):=VF.extBut RI.extBut (abQ qA)
  have Rz:H s.heap.objs.size=none:=I.iH.fresh (U0 _)
  have rT:Vals [.int i,x] [.int i s.toks,u]:=.cons ⟨s.toks,rfl⟩ (.cons ru .nil)
  have I1:Inv X c_ σ (upd H s.heap.objs.size (.tup [.int i,x])) {s with heap:=s.heap.push {cls:=.type "tuple",data:=.seq #[.int i s.toks,u]},toks:=s.toks}:=
   I.laid (t':=s.toks) (fun b u e=>aac _ e) (U0 _) ⟨L2.jQ,_,rT,⟨_,aaz _ rfl,rfl,_,rfl⟩⟩
  have up:∀b,tX X c_ H b→b<s.heap.objs.size→tX X c_ (upd H s.heap.objs.size (.tup [.int i,x])) b:=fun b f hb=>by
   obtain⟨f0,r⟩:=f
   exact⟨by rw[d_ (aaW hb)];exact f0,r⟩
  have PQ:it<s.heap.objs.size:=by obtain⟨o,ho,_⟩:=id AU;exact aax ho
  obtain⟨oi,Tp,_⟩:=id RJ
  have I2:=I1.K_ (h':=h₂) (t':=s.toks+1) (a:=e) (b:=it) (fun c o h1 h2 hc=>?_) (up e fe VE) (up it fi PQ) ⟨_,Yz⟩ ⟨oi,Tp⟩
  ·refine⟨.ref s.heap.objs.size,_,I2,rfl,⟨_,x,Rz,rfl,rfl,fun ys hy=>by rw[I.pw hy hq];exact hx⟩,⟨⟨u,?_⟩,RJ⟩,fun b hb=>?_⟩
   ·have:((i+1:Nat):Int)=(i:Int)+1:=by push_cast;rfl
    rw[this];exact Yz
   ·rcases XW.mp hb with z|z
    ·subst z;exact(up _ fe VE).1
    ·rw[US.mp z];exact(up it fi PQ).1
  ·by_cases Rf:c=s.heap.objs.size
   ·subst Rf
    have:(s.heap.push {cls:=.type "tuple",data:=.seq #[.int i s.toks,u]}).get? s.heap.objs.size=some {cls:=.type "tuple",data:=.seq #[.int i s.toks,u]}:=aaz _ rfl
    rw[this] at hc;cases hc
    exact ht₂
   ·have BD:s.heap.get? c=some o:=(Heap.get?_push_cases hc).elim (fun z=>absurd z.1 Rf) id
    exact(RI.2 c h1).trans (hk₁ c o h1 h2 BD)
 done:=by
  intro X hP hw hK hc i c_ s σ H E I hf ⟨⟨old,HM⟩,AU⟩ hg
  subst hP hw hK
  obtain⟨xs,hq,hx⟩:=hg
  obtain⟨hX,rv,p,hz⟩:=I.list hq
  obtain⟨f0,f1,f2,f3,f4,f5⟩:=hf it (by simp)
  have hl:=rv.length
  exact wpAny_pyNext_enum_end (I.ok.hd hc) HM AU p.isList (Array.getElem?_eq_none (by simp;omega)) fun h' eb=>⟨rfl,I.turned (t':=s.toks) (fun b o hb e=>eb b o hb e) f0 f1 f3 f4 f5⟩
 self:=fun _ _ _ _ _ ⟨⟨old,HM⟩,AU⟩ h=>wpAny_pyIter_enum HM h
def QD(K:Qqy)(ta:TA):TI:=fun σ H R=>ta σ H fun vs H1=>∃a,vs=[.ref a]∧(∃xs,hV K H1 a xs)∧R (QC K a) H1
section
variable{X:Cx}
theorem La{a:Expr}{ta:TA}{p pos:Pos}{elts:List Expr}{x1}{OJ:Pos}(hg:Gl X "enumerate")(hm:X.mg "enumerate"=none)(ha:PA X [a] ta)(hs:starEach [a] X.env=[(false,eval a X.env)]:=by rfl):PI X (.Tuple elts x1 OJ) (.Call (.Name "enumerate" p) [a] [] pos) (QD X.K ta):=by
 intro c_ s σ H R I h
 refine Call_ (o4 I hg hm Hi (aa0 (i3 (ha pos c_ s σ H _ I h) fun us s1 ⟨vs,H1,I1,r1,q1⟩=>?_) hs rfl))
 obtain⟨l,rfl,⟨xs,hq⟩,q⟩:=q1
 obtain⟨u,rfl,ru⟩:=vals1 r1
 cases (show u=Value.ref l from ru)
 obtain⟨hX,rv,pp,hz⟩:=I1.list hq
 refine call_enumerate_list pp.isList fun h' he hit hsz hk=>?_
 have I2:Inv X c_ σ H1 {s1 with heap:=h'}:=I1.kept (t':=s1.toks) hk
 refine wpAny_pyIter_enum he ?_
 refine⟨s1.heap.objs.size+1,[s1.heap.objs.size+1,s1.heap.objs.size],_,_,H1,rfl,I2,Hj l (s1.heap.objs.size+1) s1.heap.objs.size (Nat.succ_ne_self _),⟨⟨_,he⟩,hit⟩,fun b hb=>?_,q⟩
 rcases XW.mp hb with z|z
 ·subst z;exact I1.yf (by omega) (I1.iH.fresh (by omega))
 ·rw[US.mp z];exact I1.yf (U0 _) (I1.iH.fresh (U0 _))
theorem Jk{K:PySem.W.Frag}{a:Addr}{xs:List V}{g:TG}{tb:TS}{D:Ends}{σ:St}{H:Hp}(Pv:Nat→St→Hp→Prop)(h0:Pv 0 σ H)(hl:∀i σ H,i≤xs.length→Pv i σ H→hV K H a xs)
  (hs:∀i x t σ H,xs[i]?=some x→Pv i σ H→H t=none→g (.ref t) σ (upd H t (.tup [.int i,x])) fun σ2 H2=>tb {D with nx:=Pv (i+1),ct:=Pv (i+1),bk:=D.nx} σ2 H2) (hd:∀σ H,Pv xs.length σ H→D.nx σ H) :
  ∃W:Nat→Nat→St→Hp→Prop,(∃m,W 0 m σ H)∧∀i m σ H,W i m σ H→
   ((QC K a).stop i H∧D.nx σ H)∨((QC K a).go i H∧∃N:St→Hp→Prop,(∀σ' H',N σ' H'→∃m',m'<m∧W (i+1) m' σ' H')∧∀x H',(QC K a).Ij i H x H'→g x σ H' fun σ2 H2=>tb {D with nx:=N,ct:=N,bk:=D.nx} σ2 H2):=by
 refine⟨fun i m σ H=>m=xs.length-i∧i≤xs.length∧Pv i σ H,⟨xs.length,by simp,aaK _,h0⟩,?_⟩
 rintro i m σ H ⟨rfl,hi,p⟩
 have q:=hl i σ H hi p
 by_cases lq:i<xs.length
 ·refine .inr ⟨⟨xs,xs[i],q,VN lq⟩,Pv (i+1),fun σ' H' p'=>⟨xs.length-(i+1),by omega,rfl,lq,p'⟩,fun x H' y=>?_⟩
  obtain⟨t,z,ht,rfl,rfl,y⟩:=y
  exact hs i z t σ _ (y xs q) p ht
 ·have e:i=xs.length:=by omega
  subst e
  exact .inl ⟨⟨xs,q,U0 _⟩,hd σ H p⟩
end
structure DF(K:Qqy)(mg:Qqx)(x:Str)(st:Stmt)(a:Addr)(d:FuncData)(ps:List Str):Prop where
 f:xl K x x st a d
 b:Binds K d ps []
 m:mg x=some (.ref a)
structure DM(K:Qqy)(C:Addr)(x q:Str)(st:Stmt)(a:Addr)(d:FuncData)(ps:List Str):Prop where
 f:xl K x q st a d
 b:Binds K d ps []
 t:Meth K C x a
def FI(K:Qqy)(x:Str)(st:Stmt)(f:Addr):Prop:=W.nsIn K mainGlobals x=some (some (.ref f))∧∃d,xl K x x st f d
def MI(K:Qqy)(C:Addr)(x q:Str)(st:Stmt)(f:Addr):Prop:=Meth K C x f∧∃d,xl K x q st f d
section
variable{K:Qqy}{x q:Str}{st:Stmt}{f C:Addr}{oc kV doc pm jx ct:Value}{od an:Option Addr}{H_:Array (Option Value)}
theorem QE(a:W.nsIn K mainGlobals x=some (some (.ref f)))(l:K.lookup f=some ⟨oc,od,.func (W.fnOf x x (oB st) (k8 st) (fZ st) .none kV doc pm an jx ct),H_⟩)(c:W.codeIn K jx x=true)(k:W.keepIn K (.ref f)=true):FI K x st f:=⟨a,_,IH l c k⟩
theorem QF(a:W.findIn K (.ref C) x=some (some (.ref f)))(i:W.isFn K (.ref f)=true)(l:K.lookup f=some ⟨oc,od,.func (W.fnOf x q (oB st) (k8 st) (fZ st) .none kV doc pm an jx ct),H_⟩)(c:W.codeIn K jx q=true)(k:W.keepIn K (.ref f)=true):MI K C x q st f:=⟨⟨a,i,k⟩,_,IH l c k⟩
end
theorem Jl{X:Cx}{st:Stmt}{t:TS}(h:PS X st t):PS X st (fun D σ H=>∃d o u,H d=some (.mQ o u)∧y_ X d∧t D σ (upd H d u)):=fun c_ s σ H D I ⟨d,o,u,hd,nf,q⟩=>h c_ s σ _ D (I.wk hd nf) q
noncomputable def XY(N P:List Str)(sc:Scope):Bool:=decide (sc.kind=.function)&&!sc.isCoroutine&&!sc.isGenerator&&decide N.Nodup&&decide (N.take P.length=P)&&P.all (fun x=>decide (sc.names.lookup x=some .local)||decide (sc.names.lookup x=some .cell))&&sc.names.all (fun y=>decide (y.2≠.free))
theorem mW{N P:List Str}{sc:Scope}(h:XY N P sc=true:=by decide+kernel):gv N P sc:=by
 unfold XY at h
 simp only [aaZ,abI,Bool.not_eq_true',abO,acm] at h
 obtain⟨⟨⟨⟨⟨⟨a,b⟩,c⟩,d⟩,e⟩,f⟩,g⟩:=h
 exact⟨a,b,c,d,e,f,g⟩
section
variable{X:Cx}{x q m:Str}{st:Stmt}{f C:Addr}{fd:FuncData}{ps:List Str}{sp:Sp}{k j:Nat}{e o:Expr}{es:List Expr}{t:TA}{ta:TE}{p pos apos:Pos}{E:XK}
theorem rl(D:DF X.K X.mg x st f fd ps)(F:ik X.prog X.w X.K X.mg X.base mT k f fd ps sp)(hr:kj j X.A)(ha:PA X (e::es) t)(hk:k≤j:=by decide)(hg:Gl X x:=by rfl)(Eu:(x ==("__debug__":Str))=false:=by decide)(he:starEach (e::es) X.env=(false,eval e X.env)::starEach es X.env:=by rfl)(o3:(backTo pos (starEach es X.env)).any (·.1)=false:=by rfl):PE X (.Call (.Name x p) (e::es) [] pos) (Iq sp [] E0 t):=uM F (hr.mono hk) hg D.m D.f.kp D.b .nil oC ha Eu he o3
theorem UY(b:Bx X E)(D:DF X.K X.mg x st f fd ps)(F:ik X.prog X.w X.K X.mg X.base (sI X.prog X.w) k f fd ps sp)(hr:kj j X.A)(ha:PA X (e::es) t)(hk:k≤j:=by decide)(hg:Gl X x:=by rfl)(Eu:(x ==("__debug__":Str))=false:=by decide)(he:starEach (e::es) X.env=(false,eval e X.env)::starEach es X.env:=by rfl)(o3:(backTo pos (starEach es X.env)).any (·.1)=false:=by rfl):PE X (.Call (.Name x p) (e::es) [] pos) (Iq sp [] E t):=uM F (hr.mono hk) hg D.m D.f.kp D.b .nil (Ml b) ha Eu he o3
theorem Ax{pl:Sem Bool}(h:PE X o ta)(c:Dh X.K C)(D:DM X.K C m q st f fd ps)(F:ik X.prog X.w X.K X.mg X.base mT k f fd ps sp)(hr:kj j X.A)(ha:PA X (e::es) t)(hk:k≤j:=by decide)(yt:starEach (e::es) X.env=(false,eval e X.env)::starEach es X.env:=by rfl)(o3:(backTo pos (starEach es X.env)).any (·.1)=false:=by rfl)
 (ht:eval (.Call (.Attribute o m apos) (e::es) [] pos) X.env=(do
  let ov ←eval o X.env
  standAt apos.atName
  let (f,first) ←holding [ov] (getMethod ov m pl)
  callWith pos f first (backTo pos (starEach (e::es) X.env)) (backToKw pos (keywordEach [] X.env))):=by rfl):PE X (.Call (.Attribute o m apos) (e::es) [] pos) (Di C m sp [] E0 ta t):=Gk h c D.t F (hr.mono hk) D.b .nil oC ha yt o3 ht
theorem Ay(b:Bx X E){pl:Sem Bool}(h:PE X o ta)(c:Dh X.K C)(D:DM X.K C m q st f fd ps)(F:ik X.prog X.w X.K X.mg X.base (sI X.prog X.w) k f fd ps sp)(hr:kj j X.A)(ha:PA X (e::es) t)(hk:k≤j:=by decide)(yt:starEach (e::es) X.env=(false,eval e X.env)::starEach es X.env:=by rfl)(o3:(backTo pos (starEach es X.env)).any (·.1)=false:=by rfl)
 (ht:eval (.Call (.Attribute o m apos) (e::es) [] pos) X.env=(do
  let ov ←eval o X.env
  standAt apos.atName
  let (f,first) ←holding [ov] (getMethod ov m pl)
  callWith pos f first (backTo pos (starEach (e::es) X.env)) (backToKw pos (keywordEach [] X.env))):=by rfl):PE X (.Call (.Attribute o m apos) (e::es) [] pos) (Di C m sp [] E ta t):=Gk h c D.t F (hr.mono hk) D.b .nil (Ml b) ha yt o3 ht
end
section
variable{P:Program}{w:World}{K:Qqy}{mg:Qqx}{base:Heap}
theorem xl.q0{x qual:Str}{st:Stmt}{f:Addr}{fd:FuncData}{N ps:List Str}{k:Nat}{sp:Sp}(F:xl K x qual st f fd)(S:gv N ps (fZ st))(vO:∀(jx:Value)(A:Around)(outer:List Env)(s:Shared)(H:Hp)(vs:List V)(Q:VK)(E:XK),kj k (A.deeper (envOfC qual (fZ st) s.heap.objs.size f jx))→sp vs H Q E→∃t,C5 (v_ mT P w K mg base N qual (fZ st) f jx A outer s H E).Qa (k8 st) t∧t {nx:=fun _ H'=>Q .jn H',rt:=Q} (start N vs) H)(len:∀vs H Q E,sp vs H Q E→vs.length=ps.length:=by intro _ _ _ _ h;repeat (first|(obtain⟨rfl,_⟩:=h;rfl)|obtain⟨_,h⟩:=h)):ik P w K mg base mT (k+1) f fd ps sp:=F.ok S len vO
theorem xl.p8{x qual:Str}{st:Stmt}{f:Addr}{fd:FuncData}{N ps:List Str}{k:Nat}{sp:Sp}(F:xl K x qual st f fd)(S:gv N ps (fZ st))(vO:∀(jx:Value)(A:Around)(outer:List Env)(s:Shared)(H:Hp)(vs:List V)(Q:VK)(E:XK),kj k (A.deeper (envOfC qual (fZ st) s.heap.objs.size f jx))→sp vs H Q E→∃t,C5 (v_ (sI P w) P w K mg base N qual (fZ st) f jx A outer s H E) (k8 st) t∧t {nx:=fun _ H'=>Q .jn H',rt:=Q} (start N vs) H)(len:∀vs H Q E,sp vs H Q E→vs.length=ps.length:=by intro _ _ _ _ h;repeat (first|(obtain⟨rfl,_⟩:=h;rfl)|obtain⟨_,h⟩:=h)):ik P w K mg base (sI P w) (k+1) f fd ps sp:=F.ok1 S len vO
end
section
variable{X:Cx}{pos:Pos}
theorem kX(i:Nat){x:Str}{e:Expr}{te:TE}{pos':Pos}{N ps:List Str}{sc:Scope}(S:gv N ps sc)(he:PE X e te)(hN:X.N=N:=by rfl)(hi:X.N[i]?=some x:=by rfl)(hx:X.env.scope.names.lookup x=some .local:=by rfl)(hs:swapsWith e (some (.Name x pos')) pos.line X.env=pure false:=by rfl):PS X (.Assign [.Name x pos'] e pos) (Ii te (l6 i)):=lE (hN▸S.nd) hi (.inl hx) he hs (.inr hx)
theorem rm(i:Nat){x:Str}{N ps:List Str}{sc:Scope}(S:gv N ps sc)(hN:X.N=N:=by rfl)(hi:X.N[i]?=some x:=by rfl)(hx:X.env.scope.names.lookup x=some .local:=by rfl):PG X (.Name x pos) (l6 i):=iy (hN▸S.nd) hi (.inl hx) (.inr hx)
end
section
variable{K:Qqy}
theorem xl.bd{x qual:Str}{st:Stmt}{f:Addr}{fd:FuncData}{ps:List Str}(F:xl K x qual st f fd)(h:∀(kV doc pm:Value)(an:Option Addr)(jx ct:Value)(us:List Value),us.length=ps.length→bindArgs (W.fnOf x qual (oB st) (k8 st) (fZ st) .none kV doc pm an jx ct) ⟨us,[]⟩=pure (ps.zip us):=by intro _ _ _ _ _ _ us hl;(repeat (rcases us with _|⟨_,us⟩<;>first|(simp at hl;done)|skip));rfl):Binds K fd ps []:=F.binds h
end
section
variable{X:Cx}{a b:Expr}{ta tb:TE}{pos:Pos}{k:Nat}
theorem Az(ha:PE X a ta)(hb:PE X b tb)(hs:Gq b:=by exact fun _ _=>rfl):PE X (.Subscript a b pos) (Qi (Qp X.K) ta tb):=jO kF ha hb hs
theorem xp(hr:kj k X.A)(ha:PE X a ta)(hb:PE X b tb)(hs:Np b:=by exact fun _ _=>rfl):PE X (.Subscript a b pos) (Mi ta tb):=KW (iI hr) ha hb hs
theorem yG(h:PE X a ta)(e:ta=tb:=by(try simp only [j6]);rfl):∃t,PE X a t∧t=tb:=⟨_,h,e⟩
end
end L2
namespace K01
section
variable{α:Type}[DecidableEq α]
noncomputable def lcs:List α→List α→Nat
 | [],_=>0
 | _::_,[]=>0
 | a::as,b::bs=>if b=a then lcs as bs+1 else max (lcs as (b::bs)) (lcs (a::as) bs)
termination_by x y=>x.length+y.length
def nR(x y:List α)(n:Nat):Prop:=(∀s:List α,s.Sublist x→s.Sublist y→s.length≤n)∧∃s:List α,s.Sublist x∧s.Sublist y∧s.length=n
theorem nR.uniq{x y:List α}{n m:Nat}(h:nR x y n)(g:nR x y m):n=m:=by
 obtain⟨h1,s,a,b,e⟩:=h
 obtain⟨g1,t,c,d,f⟩:=g
 have:=g1 s a b
 have:=h1 t c d
 omega
theorem nR.DK(y:List α):nR [] y 0:=⟨fun s a _=>by have:=a.length_le;simpa using this,[],aaG _,List.nil_sublist _,rfl⟩
theorem nR.Bi(x:List α):nR x [] 0:=⟨fun s _ b=>by have:=b.length_le;simpa using this,[],List.nil_sublist _,aaG _,rfl⟩
theorem lM{s as:List α}{a:α}(h:s.Sublist (a::as)):s.Sublist as∨∃t,s=a::t∧t.Sublist as:=by
 cases h with
 | cons _ h=>exact .inl h
 | cons_cons _ h=>exact .inr ⟨_,rfl,h⟩
theorem nR.eq{as bs:List α}{a:α}{n:Nat}(h:nR as bs n):nR (a::as) (a::bs) (n+1):=by
 obtain⟨h1,s,x,y,e⟩:=h
 refine⟨fun t c d=>?_,a::s,x.cons_cons a,y.cons_cons a,by rw[aae,e]⟩
 rcases lM c with c2|⟨u,e2,c2⟩
 ·rcases lM d with d2|⟨v,e3,d2⟩
  ·have:=h1 t c2 d2;omega
  ·subst e3
   have:=h1 v ((abt a v).trans c2) d2
   rw[aae];omega
 ·have d':u.Sublist bs:=by
   subst e2
   rcases lM d with d2|⟨v,e',d2⟩
   ·exact(abt a u).trans d2
   ·cases e';exact d2
  have:=h1 u c2 d'
  subst e2
  rw[aae];omega
theorem nR.ne{as bs:List α}{a b:α}{n m:Nat}(GS:a≠b)(h:nR as (b::bs) n)(g:nR (a::as) bs m):nR (a::as) (b::bs) (max n m):=by
 obtain⟨h1,s,x,y,e⟩:=h
 obtain⟨g1,s',x',y',e'⟩:=g
 refine⟨fun t c d=>?_,?_⟩
 ·rcases lM c with c'|⟨u,rfl,_⟩
  ·have:=h1 t c' d;omega
  ·rcases lM d with d'|⟨v,e,_⟩
   ·have:=g1 _ c d';omega
   ·cases e;exact absurd rfl GS
 ·by_cases Kw:m≤n
  ·exact⟨s,x.cons a,y,by omega⟩
  ·exact⟨s',x',y'.cons b,by omega⟩
theorem j7:∀x y:List α,nR x y (lcs x y)
 | [],y=>by rw[lcs];exact .DK y
 | a::as,[]=>by rw[lcs];exact .Bi _
 | a::as,b::bs=>by
  rw[lcs]
  by_cases h:b=a
  ·rw[aas h];subst h;exact(j7 as bs).eq
  ·rw[aan h];exact .ne (fun e=>h e.symm) (j7 as (b::bs)) (j7 (a::as) bs)
termination_by x y=>x.length+y.length
theorem Lb(x:List α):lcs x []=0:=(j7 x []).uniq (.Bi x)
theorem Gv(y:List α):lcs [] y=0:=(j7 [] y).uniq (.DK y)
theorem zf{x x' y y':List α}(h:x.Sublist x')(g:y.Sublist y'):lcs x y≤lcs x' y':=by
 obtain⟨_,s,a,b,e⟩:=j7 x y
 rw[←e]
 exact(j7 x' y').1 s (a.trans h) (b.trans g)
theorem DL(x y:List α):lcs x y≤x.length:=by
 obtain⟨_,s,a,b,e⟩:=j7 x y
 rw[←e];exact a.length_le
noncomputable def i_(a:α)(new:List α)(j:Nat):Option Nat:=((new.drop j).findIdx? (·=a)).map (j+·)
noncomputable def pB(new:List α):Nat→List α→Nat→List (Nat×Nat)
 | _,[],_=>[]
 | i,a::as,j=>match i_ a new j with
  | none=>pB new (i+1) as j
  | some k=>if lcs as (new.drop (k+1))+1=lcs (a::as) (new.drop j) then(i,k)::pB new (i+1) as (k+1) else pB new (i+1) as j
noncomputable def kept(old new:List α):List (Nat×Nat):=pB new 0 old 0
theorem kB{a:α}{new:List α}{j k:Nat}(h:i_ a new j=some k):j≤k∧new[k]?=some a∧∀l,j≤l→l<k→new[l]?≠some a:=by
 unfold i_ at h
 cases e:(new.drop j).findIdx? (·=a) with
 | none=>rw[e] at h;cases h
 | some d=>
  rw[e] at h
  have h:j+d=k:=aaD h
  subst h
  obtain⟨hd,h1,h2⟩:=List.findIdx?_eq_some_iff_getElem.mp e
  have h1:(new.drop j)[d]=a:=by simpa using h1
  refine⟨Nat.le_add_right _ _,?_,fun l hl hk q=>?_⟩
  ·rw[←ab5,VN hd,h1]
  ·have:=h2 (l-j) (by omega)
   have hq:(new.drop j)[l-j]?=some a:=by rw[ab5,show j+(l-j)=l by omega];exact q
   obtain⟨hh,he⟩:=RO.mp hq
   simp[he] at this
theorem nS{a:α}{new:List α}{j:Nat}(h:i_ a new j=none):∀l,j≤l→new[l]?≠some a:=by
 unfold i_ at h
 cases e:(new.drop j).findIdx? (·=a) with
 | some d=>rw[e] at h;cases h
 | none=>
  intro l hl q
  have hq:(new.drop j)[l-j]?=some a:=by rw[ab5,show j+(l-j)=l by omega];exact q
  have:=List.findIdx?_eq_none_iff.mp e a (VI hq)
  simp at this
theorem Jm{a:α}{as y:List α}(h:a∉y):lcs (a::as) y=lcs as y:=by
 refine(j7 (a::as) y).uniq ⟨fun s c d=>?_,?_⟩
 ·rcases lM c with c|⟨t,rfl,c⟩
  ·exact(j7 as y).1 s c d
  ·exact absurd (d.subset aav) h
 ·obtain⟨_,s,c,d,e⟩:=j7 as y
  exact⟨s,c.cons a,d,e⟩
theorem p9{new:List α}{k:Nat}{a:α}(h:new[k]?=some a):new.drop k=a::new.drop (k+1):=by
 obtain⟨hk,e⟩:=RO.mp h
 rw[aaT hk,e]
theorem zg{new:List α}{j k:Nat}(h:j≤k):(new.drop k).Sublist (new.drop j):=by
 have:new.drop k=(new.drop j).drop (k-j):=by rw[List.drop_drop];congr 1;omega
 rw[this];exact List.drop_sublist _ _
theorem BY{a:α}{as new:List α}{j l:Nat}(hl:j≤l)(h:new[l]?=some a):lcs as (new.drop (l+1))+1≤lcs (a::as) (new.drop j):=by
 have:lcs (a::as) (new.drop l)≤lcs (a::as) (new.drop j):=zf (aaG _) (zg hl)
 rw[p9 h,lcs,aas rfl] at this
 exact this
theorem zh{a:α}{as new:List α}{j k:Nat}(h:i_ a new j=some k)(qA:lcs as (new.drop (k+1))+1≠lcs (a::as) (new.drop j)):lcs (a::as) (new.drop j)=lcs as (new.drop j):=by
 obtain⟨RL,hk,LX⟩:=kB h
 have h1:=BY (as:=as) RL hk
 have h2:lcs as (new.drop j)≤lcs (a::as) (new.drop j):=zf (abt a as) (aaG _)
 obtain⟨hs,s,c,d,e⟩:=j7 (a::as) (new.drop j)
 rcases lM c with c2|⟨t,es,c2⟩
 ·have:=(j7 as (new.drop j)).1 s c2 d;omega
 ·exfalso
  subst es
  have key:∀(n:Nat)(j:Nat),k-j=n→j≤k→(∀l,j≤l→l<k→new[l]?≠some a)→(a::t).Sublist (new.drop j)→t.Sublist (new.drop (k+1)):=by
   intro n
   induction n with
   | zero=>
    intro j e1 e2 _ d
    have:j=k:=by omega
    subst this
    rw[p9 hk] at d
    rcases lM d with d|⟨u,e,d⟩
    ·exact(abt a t).trans d
    ·cases e;exact d
   | succ n ih=>
    intro j e1 e2 hm d
    have hj:j<new.length:=by
     have:=(RO.mp hk).1;omega
    rw[aaT hj] at d
    rcases lM d with d|⟨u,e,_⟩
    ·exact ih (j+1) (by omega) (by omega) (fun l hl=>hm l (by omega)) d
    ·exfalso
     have e0:a=new[j]:=(List.cons.inj e).1
     exact hm j (U0 _) (by omega) (by rw[VN hj,←e0])
  have ht:=key _ j rfl RL LX d
  have:=(j7 as (new.drop (k+1))).1 t c2 ht
  rw[aae] at e
  omega
theorem Hk{a:α}{as new:List α}{j:Nat}(h:i_ a new j=none):lcs (a::as) (new.drop j)=lcs as (new.drop j):=by
 refine Jm fun m=>?_
 obtain⟨l,hl⟩:=aaP.mp m
 rw[ab5] at hl
 exact nS h (j+l) (Nat.le_add_right _ _) hl
theorem lN(new:List α):∀(old:List α)(i j:Nat),(pB new i old j).length=lcs old (new.drop j)
 | [],i,j=>by rw[pB,Gv];rfl
 | a::as,i,j=>by
  unfold pB
  cases h:i_ a new j with
  | none=>simp only;rw[lN new as,Hk h]
  | some k=>
   simp only
   by_cases hc:lcs as (new.drop (k+1))+1=lcs (a::as) (new.drop j)
   ·rw[aas hc,aae,lN new as];exact hc
   ·rw[aan hc,lN new as,zh h hc]
inductive Good(old new:List α):Nat→Nat→List (Nat×Nat)→Prop
 | nil (i j):Good old new i j []
 | cons {i j p q r} (h1:i≤p) (h2:j≤q) (a:α) (e1:old[p]?=some a) (e2:new[q]?=some a)
  (h3:∀l m,i≤l→l≤p→j≤m→(l<p∨m<q)→∀b,old[l]?=some b→new[m]?=some b→¬r.length≤lcs (old.drop (l+1)) (new.drop (m+1)))
  (t:Good old new (p+1) (q+1) r):Good old new i j ((p,q)::r)
theorem Good.back{old new:List α}{i j:Nat}{a:α}{r:List (Nat×Nat)}(ha:old[i]?=some a)(hl:r.length=lcs (old.drop (i+1)) (new.drop j))(hn:∀m,j≤m→new[m]?=some a→lcs (old.drop (i+1)) (new.drop (m+1))+1≠r.length∧lcs (old.drop (i+1)) (new.drop (m+1))+1≤r.length)
  (h:Good old new (i+1) j r):Good old new i j r:=by
 cases h with
 | nil=>exact .nil _ _
 | @cons _ _ p q r h1 h2 b e1 e2 h3 t=>
  refine .cons (by omega) h2 b e1 e2 (fun l m VG HK hm lq c c1 c2 hle=>?_) t
  by_cases e:l=i
  ·subst e
   rw[ha] at c1
   cases c1
   have z:=hn m hm c2
   rw[aae] at z
   omega
  ·exact h3 l m (by omega) HK hm lq c c1 c2 hle
theorem p_{old new:List α}:∀(rest:List α)(i j:Nat),old.drop i=rest→Good old new i j (pB new i rest j)
 | [],i,j,_=>by rw[pB];exact .nil _ _
 | a::as,i,j,e=>by
  have ha:old[i]?=some a:=by
   have:(old.drop i)[0]?=some a:=by rw[e];rfl
   rwa [ab5,Nat.add_zero] at this
  have e':old.drop (i+1)=as:=by
   have:=p9 ha;rw[e] at this;exact(List.cons.inj this).2.symm
  have L:=lN new as (i+1) j
  unfold pB
  cases h:i_ a new j with
  | none=>
   simp only
   refine Good.back ha (by rw[L,e']) (fun m hm q=>absurd q (nS h m hm)) (p_ as (i+1) j e')
  | some k=>
   obtain⟨RL,hk,LX⟩:=kB h
   simp only
   by_cases hc:lcs as (new.drop (k+1))+1=lcs (a::as) (new.drop j)
   ·rw[aas hc]
    refine .cons (U0 _) RL a ha hk (fun l m VG HK hm lq b c1 c2 _=>?_) (p_ as (i+1) (k+1) e')
    have:l=i:=by omega
    subst this
    rw[ha] at c1
    cases c1
    exact LX m hm (by omega) c2
   ·rw[aan hc]
    have S:=zh h hc
    refine Good.back ha (by rw[L,e']) (fun m hm q=>?_) (p_ as (i+1) j e')
    rw[L,e',←S]
    have h1:=BY (as:=as) hm q
    refine⟨fun z=>?_,h1⟩
    have hkm:k≤m:=by
     rcases Nat.lt_or_ge m k with z'|z'
     ·exact absurd q (LX m hm z')
     ·exact z'
    have h2:lcs as (new.drop (m+1))≤lcs as (new.drop (k+1)):=zf (aaG _) (zg (by omega))
    have h3:=BY (as:=as) RL hk
    omega
theorem Hl(old new:List α):Good old new 0 0 (kept old new):=p_ old 0 0 rfl
theorem xq(old new:List α):(kept old new).length=lcs old new:=lN new old 0 0
noncomputable def pre(old new:List α)(i k:Nat):Nat:=lcs (old.take i) (new.take k)
noncomputable def wu(old new:List α)(i j:Nat):Nat:=lcs (old.drop i) (new.drop j)
theorem yH{old new:List α}{i j:Nat}(h:old.length≤i∨new.length≤j):wu old new i j=0:=by
 unfold wu
 rcases h with h|h
 ·rw[List.drop_eq_nil_of_le h,Gv]
 ·rw[List.drop_eq_nil_of_le h,Lb]
theorem Lc{old new:List α}{i j:Nat}{a b:α}(ha:old[i]?=some a)(hb:new[j]?=some b) :
  wu old new i j=if b=a then wu old new (i+1) (j+1)+1 else max (wu old new (i+1) j) (wu old new i (j+1)):=by
 unfold wu
 rw[p9 ha,p9 hb,lcs,←p9 ha,←p9 hb]
end
end K01
namespace PM
open PySem
abbrev Nm:=Str×Nat
structure Ln where
 nm:Nm
 tx:Str
 up:Option Nm
 lo:Option Nm
 deriving DecidableEq
structure Pt where
 nm:Str
 file:Option Str
 ig:List Ln
 i4:List Nm
 other:Option Str
 deriving DecidableEq
noncomputable def qL:List Pt→List Str→List Pt
 | [],_=>[]
 | p::r,t=>if p.nm∈t then qL r t else p::qL r (match p.other with|some o=>o::t|none=>t)
noncomputable def live(ps:List Pt):List Pt:=(qL ps.reverse []).reverse
noncomputable def hU(ps:List Pt)(f:Str):List Ln:=(ps.filter fun p=>p.file=some f).flatMap (·.ig)
noncomputable def gone(ps:List Pt):List Nm:=ps.flatMap (·.i4)
noncomputable def nU(ps:List Pt)(f:Str):List Ln:=(hU (live ps) f).filter fun l=>l.nm∉gone (live ps)
theorem wx:∀(ps:List Pt)(t:List Str),(qL ps t).Sublist ps
 | [],_=>aaG _
 | p::r,t=>by
  unfold qL
  split
  ·exact(wx r t).cons p
  ·exact(wx r _).cons_cons p
theorem DN(ps:List Pt):(live ps).Sublist ps:=by
 have:=(wx ps.reverse []).reverse
 rwa [List.reverse_reverse] at this
theorem BZ{ps qs:List Pt}(h:ps.Sublist qs)(f:Str):(hU ps f).Sublist (hU qs f):=by
 unfold hU
 have h:=h.filter (fun p=>decide (p.file=some f))
 generalize ps.filter _=a at h
 generalize qs.filter _=b at h
 induction h with
 | slnil=>exact aaG _
 | cons x _ ih=>rw[aaA];exact ih.trans (aa4 _ _)
 | cons_cons x _ ih=>rw[aaA,aaA];exact(aaG _).append ih
theorem lO(ps:List Pt)(f:Str):(nU ps f).Sublist (hU ps f):=
 aaV.trans (BZ (DN ps) f)
def Sa(ls:List Ln)(m n:Nm):Prop:=∃l∈ls,(l.nm=n∧l.up=some m)∨(l.nm=m∧l.lo=some n)
inductive Ah(ls:List Ln):Nm→Nm→Prop
 | one {m n}:Sa ls m n→Ah ls m n
 | Kr {m k n}:Ah ls m k→Sa ls k n→Ah ls m n
theorem Ah.last{ls:List Ln}{m n:Nm}:Ah ls m n↔Sa ls m n∨∃k,Ah ls m k∧Sa ls k n:=by
 constructor
 ·intro h
  cases h with
  | one x=>exact .inl x
  | Kr a x=>exact .inr ⟨_,a,x⟩
 ·rintro(x|⟨k,a,x⟩)
  ·exact .one x
  ·exact .Kr a x
def Rk(ls:List Ln)(rk:Nm→Nat):Prop:=∀l∈ls,(∀m,l.up=some m→rk m<rk l.nm)∧(∀m,l.lo=some m→rk l.nm<rk m)
def Jn(ls:List Ln):Prop:=∃rk,Rk ls rk
theorem Rk.sa{ls:List Ln}{rk:Nm→Nat}(r:Rk ls rk){m n:Nm}(h:Sa ls m n):rk m<rk n:=by
 obtain⟨l,hl,⟨rfl,e⟩|⟨rfl,e⟩⟩:=h
 ·exact(r l hl).1 m e
 ·exact(r l hl).2 n e
theorem Rk.ah{ls:List Ln}{rk:Nm→Nat}(r:Rk ls rk){m n:Nm}(h:Ah ls m n):rk m<rk n:=by
 induction h with
 | one x=>exact r.sa x
 | Kr _ x ih=>exact Nat.lt_trans ih (r.sa x)
def qa(ls:List Ln):Prop:=∀l∈ls,(∀m,l.up=some m→m∈ls.map (·.nm))∧(∀m,l.lo=some m→m∈ls.map (·.nm))
theorem qa.sa{ls:List Ln}(c:qa ls){m n:Nm}(h:Sa ls m n):m∈ls.map (·.nm)∧n∈ls.map (·.nm):=by
 obtain⟨l,hl,⟨rfl,e⟩|⟨rfl,e⟩⟩:=h
 ·exact⟨(c l hl).1 m e,aaa hl⟩
 ·exact⟨aaa hl,(c l hl).2 n e⟩
theorem qa.ah{ls:List Ln}(c:qa ls){m n:Nm}(h:Ah ls m n):m∈ls.map (·.nm)∧n∈ls.map (·.nm):=by
 induction h with
 | one x=>exact c.sa x
 | Kr _ x ih=>exact⟨ih.1,(c.sa x).2⟩
section
open Classical
variable(lt:Nm→Nm→Prop)
noncomputable def free(ls:List Ln)(l:Ln):Bool:=decide (∀o∈ls,¬lt o.nm l.nm)
noncomputable def tD:Nat→List Ln→List Ln
 | 0,_=>[]
 | n+1,ls=>match ls.find? (free lt ls) with
  | none=>[]
  | some l=>l::tD n (ls.filter fun o=>o.nm≠l.nm)
noncomputable def rowOf(ls:List Ln):List Ln:=tD lt ls.length ls
def ltAt(row:List Ln)(i j:Nat):Prop:=∃a b,row[i]?=some a∧row[j]?=some b∧lt a.nm b.nm
noncomputable def kY(row:List Ln):List (Nat×Nat):=
 (List.range row.length).flatMap fun i=>((List.range' (i+1) (row.length-(i+1))).filter fun j=>decide (¬ltAt lt row i j)).map fun j=>(i,j)
variable{lt}
theorem xr{rk:Nm→Nat}(hr:∀m n,lt m n→rk m<rk n):∀(ls:List Ln),ls≠[]→∃l,ls.find? (free lt ls)=some l:=by
 intro ls hn
 have least:∀(xs:List Ln),xs≠[]→∃l∈xs,∀o∈xs,rk l.nm≤rk o.nm:=by
  intro xs
  induction xs with
  | nil=>intro h;exact absurd rfl h
  | cons x r ih=>
   intro _
   by_cases h:r=[]
   ·subst h;exact⟨x,by simp,fun o ho=>by simp at ho;rw[ho];exact U0 _⟩
   ·obtain⟨l,hl,hm⟩:=ih h
    by_cases hx:rk x.nm≤rk l.nm
    ·refine⟨x,by simp,fun o ho=>?_⟩
     rcases XW.mp ho with rfl|ho
     ·exact U0 _
     ·exact aad hx (hm o ho)
    ·refine⟨l,aal _ hl,fun o ho=>?_⟩
     rcases XW.mp ho with rfl|ho
     ·omega
     ·exact hm o ho
 obtain⟨l,hl,hm⟩:=least ls hn
 have hf:free lt ls l=true:=XU fun o ho lq=>by have:=hr _ _ lq;have:=hm o ho;omega
 cases e:ls.find? (free lt ls) with
 | some x=>exact⟨x,rfl⟩
 | none=>exact absurd hf (by have:=List.find?_eq_none.mp e l hl;simpa using this)
theorem pC{ls:List Ln}(nd:(ls.map (·.nm)).Nodup){l:Ln}(hl:l∈ls):(ls.filter fun o=>o.nm≠l.nm).length+1=ls.length:=by
 induction ls with
 | nil=>cases hl
 | cons x r ih=>
  rw[aaw,aaX] at nd
  rcases XW.mp hl with rfl|hl
  ·have e:r.filter (fun o=>decide (o.nm≠l.nm))=r:=List.filter_eq_self.mpr fun o ho=>XU fun z=>nd.1 (z▸aaa ho)
   rw[aaj (by simp),e,aae]
  ·have hx:x.nm≠l.nm:=fun z=>nd.1 (z▸aaa hl)
   rw[XZ (by simpa using hx),aae,aae,ih nd.2 hl]
theorem yi{ls:List Ln}(nd:(ls.map (·.nm)).Nodup)(p:Ln→Bool):((ls.filter p).map (·.nm)).Nodup:=(aaV.map _).nodup nd
theorem zi{rk:Nm→Nat}(hr:∀m n,lt m n→rk m<rk n):∀(n:Nat)(ls:List Ln),n=ls.length→(ls.map (·.nm)).Nodup→(tD lt n ls).Perm ls
 | 0,ls,e,_=>by
  have:ls=[]:=aaO.mp e.symm
  subst this;exact List.Perm.refl _
 | n+1,ls,e,nd=>by
  have hn:ls≠[]:=fun z=>by subst z;cases e
  obtain⟨l,hf⟩:=xr hr ls hn
  have hl:l∈ls:=List.mem_of_find?_eq_some hf
  unfold tD
  rw[hf]
  have hlen:=pC nd hl
  have ih:=zi hr n (ls.filter fun o=>o.nm≠l.nm) (by omega) (yi nd _)
  refine(ih.cons l).trans ?_
  clear ih hf hlen e hn
  induction ls with
  | nil=>cases hl
  | cons x r ih=>
   rw[aaw,aaX] at nd
   rcases XW.mp hl with rfl|hl
   ·have e:r.filter (fun o=>decide (o.nm≠l.nm))=r:=List.filter_eq_self.mpr fun o ho=>XU fun z=>nd.1 (z▸aaa ho)
    rw[aaj (by simp),e]
   ·have hx:x.nm≠l.nm:=fun z=>nd.1 (z▸aaa hl)
    rw[XZ (by simpa using hx)]
    exact(List.Perm.swap _ _ _).trans ((ih nd.2 hl).cons x)
theorem Ft{rk:Nm→Nat}(hr:∀m n,lt m n→rk m<rk n){ls:List Ln}(nd:(ls.map (·.nm)).Nodup):(rowOf lt ls).Perm ls:=zi hr _ ls rfl nd
end
noncomputable def DO(sf:Nm→List Nm)(S:List Nm)(x:Nm):List Nm:=(sf x).filter fun y=>y∉S
inductive Run(sf:Nm→List Nm)(B:Nat):Nat→List Nm→List Nm→Prop
 | nil {S}:Run sf B 0 [] S
 | skip {n x st S}:x∈S→(x::st).length≤B→Run sf B n st S→Run sf B (n+1) (x::st) S
 | fin {n x st S}:x∉S→DO sf S x=[]→(x::st).length≤B→Run sf B n st (S++[x])→Run sf B (n+1) (x::st) S
 | push {n x st S}:x∉S→DO sf S x≠[]→(x::st).length≤B→Run sf B n ((DO sf S x).reverse++x::st) S→Run sf B (n+1) (x::st) S
theorem B0{sf:Nm→List Nm}{S:List Nm}{x:Nm}:DO sf S x=[]↔∀y∈sf x,y∈S:=by
 unfold DO
 rw[List.filter_eq_nil_iff]
 exact⟨fun h y hy=>by simpa using h y hy,fun h y hy=>by simpa using h y hy⟩
theorem Ld{sf:Nm→List Nm}{B N:Nat}(cr:Nm→Nat)(hN:∀x,(sf x).length≤N)(hc:∀x y,y∈sf x→cr y<cr x):∀(k:Nat)(x:Nm),cr x≤k→∀(st S:List Nm),st.length+1+N*cr x≤B→
  (∀S',(∀y∈S,y∈S')→x∈S'→∃n,Run sf B n st S')→∃n,Run sf B n (x::st) S:=by
 intro k
 induction k with
 | zero=>
  intro x hx st S hB go
  by_cases hm:x∈S
  ·obtain⟨n,r⟩:=go S (fun _ h=>h) hm
   exact⟨n+1,.skip hm (by rw[aae];omega) r⟩
  ·have e:DO sf S x=[]:=B0.mpr fun y hy=>by have:=hc x y hy;omega
   obtain⟨n,r⟩:=go (S++[x]) (fun _ h=>aat _ h) (by simp)
   exact⟨n+1,.fin hm e (by rw[aae];omega) r⟩
 | succ k ih=>
  intro x hx st S hB go
  have hlen:(x::st).length≤B:=by rw[aae];omega
  by_cases hm:x∈S
  ·obtain⟨n,r⟩:=go S (fun _ h=>h) hm
   exact⟨n+1,.skip hm hlen r⟩
  ·by_cases e:DO sf S x=[]
   ·obtain⟨n,r⟩:=go (S++[x]) (fun _ h=>aat _ h) (by simp)
    exact⟨n+1,.fin hm e hlen r⟩
   ·
    have many:∀(ms:List Nm)(S0:List Nm),(∀y∈ms,y∈sf x)→ms.length≤N→(∀S',(∀y∈S0,y∈S')→(∀y∈ms,y∈S')→∃n,Run sf B n (x::st) S')→∃n,Run sf B n (ms++x::st) S0:=by
     intro ms
     induction ms with
     | nil=>intro S0 _ _ h;exact h S0 (fun _ z=>z) (fun y hy=>by cases hy)
     | cons m r ihm=>
      intro S0 hs hl h
      have MA:=hc x m (hs m aav)
      rw[aae] at hl
      refine ih m (by omega) (r++x::st) S0 ?_ fun S1 h1 VB=>ihm S1 (fun y hy=>hs y (aal _ hy)) (by omega) fun S2 h2 h3=>h S2 (fun y hy=>h2 y (h1 y hy)) fun y hy=>?_
      ·rw[UZ,aae]
       have:N*cr m+N≤N*cr x:=by rw[←Nat.mul_succ];exact Nat.mul_le_mul_left N MA
       omega
      ·rcases XW.mp hy with z|z
       ·rw[z];exact h2 m VB
       ·exact h3 y z
    have yu:(DO sf S x).length≤N:=aad (aaI _ _) (hN x)
    have cont:∀S',(∀y∈S,y∈S')→(∀y∈(DO sf S x).reverse,y∈S')→∃n,Run sf B n (x::st) S':=fun S' h1 h2=>by
     by_cases OR:x∈S'
     ·obtain⟨n,r⟩:=go S' h1 OR
      exact⟨n+1,.skip OR hlen r⟩
     ·have e':DO sf S' x=[]:=B0.mpr fun y hy=>by
       by_cases Td:y∈S
       ·exact h1 y Td
       ·exact h2 y (List.mem_reverse.mpr (aaq.mpr ⟨hy,by simpa using Td⟩))
      obtain⟨n,r⟩:=go (S'++[x]) (fun y hy=>aat _ (h1 y hy)) (by simp)
      exact⟨n+1,.fin OR e' hlen r⟩
    obtain⟨n,r⟩:=many (DO sf S x).reverse S (fun y hy=>(aaq.mp (List.mem_reverse.mp hy)).1) (by rw[abj];exact yu) cont
    exact⟨n+1,.push hm e hlen r⟩
noncomputable def Pu(ls:List Ln)(rk:Nm→Nat)(n:Nm):Nat:=(ls.filter fun l=>rk l.nm<rk n).length
theorem NQ(ls:List Ln)(rk:Nm→Nat)(n:Nm):Pu ls rk n≤ls.length:=aaI _ _
theorem NR{ls:List Ln}{rk:Nm→Nat}{m n:Nm}(hm:m∈ls.map (·.nm))(h:rk m<rk n):Pu ls rk m<Pu ls rk n:=by
 unfold Pu
 have mono:∀{a b:Ln→Bool} {xs:List Ln},(∀x∈xs,a x=true→b x=true)→(xs.filter a).length≤(xs.filter b).length:=by
  intro a b xs GS
  induction xs with
  | nil=>exact U0 _
  | cons x r ih=>
   have ih:=ih fun y hy=>GS y (aal _ hy)
   by_cases ha:a x=true
   ·rw[XZ ha,XZ (GS x aav ha),aae,aae];omega
   ·rw[aaj ha]
    by_cases hb:b x=true
    ·rw[XZ hb,aae];omega
    ·rw[aaj hb];exact ih
 obtain⟨l,hl,rfl⟩:=aaH.mp hm
 obtain⟨a,b,rfl⟩:=List.append_of_mem hl
 rw[aaM,aaM,UZ,UZ]
 rw[aaj (by simp),XZ (by simpa using h),aae]
 have h1:=mono (a:=fun x:Ln=>decide (rk x.nm<rk l.nm)) (b:=fun x=>decide (rk x.nm<rk n)) (xs:=a) fun x _ hx=>by simp at hx ⊢;omega
 have h2:=mono (a:=fun x:Ln=>decide (rk x.nm<rk l.nm)) (b:=fun x=>decide (rk x.nm<rk n)) (xs:=b) fun x _ hx=>by simp at hx ⊢;omega
 omega
theorem len_sub{xs ys:List Nm}(nd:xs.Nodup)(h:∀x∈xs,x∈ys):xs.length≤ys.length:=by
 induction xs generalizing ys with
 | nil=>exact aaK _
 | cons a r ih=>
  rw[aaX] at nd
  obtain⟨p,q,rfl⟩:=List.append_of_mem (h a aav)
  have:=ih (ys:=p++q) nd.2 fun z hz=>by
   have:=h z (aal _ hz)
   rcases XX.mp this with w|w
   ·exact aat _ w
   ·rcases XW.mp w with w|w
    ·exact absurd (w▸hz) nd.1
    ·exact aaL _ w
  rw[UZ] at this
  rw[aae,UZ,aae]
  omega
theorem Jo{ls:List Ln}(cl:qa ls)(tp:Jn ls){sf:Nm→List Nm}(hs:∀n,(sf n).Nodup∧∀m,m∈sf n↔Sa ls m n)(x:Nm)(S:List Nm):∃n,Run sf (1+ls.length*ls.length) n [x] S:=by
 obtain⟨rk,hr⟩:=tp
 have VH:∀n,(sf n).length≤ls.length:=fun n=>by
  have:=len_sub (ys:=ls.map (·.nm)) (hs n).1 fun y hy=>(cl.sa (((hs n).2 y).mp hy)).1
  rw[RK] at this
  exact this
 refine Ld (N:=ls.length) (Pu ls rk) VH (fun x y hy=>?_) _ x (U0 _) [] S ?_ fun S' _ _=>⟨0,.nil⟩
 ·have h:=((hs x).2 y).mp hy
  exact NR (cl.sa h).1 (hr.sa h)
 ·have:=Nat.mul_le_mul_left ls.length (NQ ls rk x)
  show 0+1+ls.length*Pu ls rk x≤1+ls.length*ls.length
  omega
def Hm(n m:Nat)(qs:List (Nat×Nat)):Prop:=qs.Pairwise (fun a b=>a.1<b.1∧a.2<b.2)∧∀q∈qs,q.1<n∧q.2<m
theorem Hn{α:Type}[DecidableEq α]{old new:List α}{i j:Nat}{qs:List (Nat×Nat)}(g:K01.Good old new i j qs):Hm old.length new.length qs∧∀q∈qs,i≤q.1∧j≤q.2:=by
 induction g with
 | nil=>exact⟨⟨List.Pairwise.nil,fun q hq=>by cases hq⟩,fun q hq=>by cases hq⟩
 | @cons i j p q r h1 h2 a e1 e2 h3 t ih=>
  obtain⟨⟨h4,h5⟩,h6⟩:=ih
  refine⟨⟨List.Pairwise.cons (fun b hb=>?_) h4,fun b hb=>?_⟩,fun b hb=>?_⟩
  ·have:=h6 b hb
   exact⟨by show p<b.1;omega,by show q<b.2;omega⟩
  ·rcases XW.mp hb with rfl|hb
   ·exact⟨(RO.mp e1).1,(RO.mp e2).1⟩
   ·exact h5 b hb
  ·rcases XW.mp hb with rfl|hb
   ·exact⟨h1,h2⟩
   ·have:=h6 b hb
    omega
theorem sM{α:Type}[DecidableEq α](old new:List α):Hm old.length new.length (K01.kept old new):=(Hn (K01.Hl old new)).1
noncomputable def mX(row:List Ln):List (Nat×Nat)→Nat→Option Nm
 | [],_=>none
 | q::r,s=>if q.2=s then(row[q.1]?).map (·.nm) else mX row r s
noncomputable def ub(row:List Ln)(qs:List (Nat×Nat)):List Nm:=qs.filterMap fun q=>(row[q.1]?).map (·.nm)
theorem B1{row:List Ln}{qs:List (Nat×Nat)}{s:Nat}{m:Nm}(h:mX row qs s=some m):∃q∈qs,q.2=s∧∃l,row[q.1]?=some l∧l.nm=m:=by
 induction qs with
 | nil=>cases h
 | cons q r ih=>
  unfold mX at h
  by_cases e:q.2=s
  ·rw[aas e] at h
   obtain⟨l,hl,e2⟩:=aaF.mp h
   exact⟨q,aav,e,l,hl,e2⟩
  ·rw[aan e] at h
   obtain⟨q',hq,z⟩:=ih h
   exact⟨q',aal _ hq,z⟩
theorem B2{row:List Ln}{m:Nat}:∀{qs:List (Nat×Nat)},Hm row.length m qs→∀s,(mX row qs s).isSome=decide (s∈qs.map (·.2))
 | [],_,s=>rfl
 | q::r,h,s=>by
  have hr:Hm row.length m r:=⟨(List.pairwise_cons.mp h.1).2,fun x hx=>h.2 x (aal _ hx)⟩
  unfold mX
  by_cases e:q.2=s
  ·rw[aas e,VN (h.2 q aav).1,XU (by rw[aaw,e];exact aav)];rfl
  ·rw[aan e,B2 hr s,aaw]
   by_cases z:s∈r.map (·.2)
   ·rw[XU z,XU (aal _ z)]
   ·rw[aah z,aah (fun w=>(XW.mp w).elim (fun w=>e w.symm) z)]
theorem Le{row:List Ln}{qs:List (Nat×Nat)}{m:Nat}{rk:Nm→Nat}(h:Hm row.length m qs)(hr:row.Pairwise fun a b=>rk a.nm<rk b.nm){s t:Nat}{a b:Nm}(hs:mX row qs s=some a)(ht:mX row qs t=some b)(yt:s<t):rk a<rk b:=by
 obtain⟨q1,h1,e1,l1,r1,rfl⟩:=B1 hs
 obtain⟨q2,h2,e2,l2,r2,rfl⟩:=B1 ht
 have lq:q1.1<q2.1:=by
  obtain⟨i,hi,ei⟩:=List.mem_iff_getElem.mp h1
  obtain⟨j,hj,ej⟩:=List.mem_iff_getElem.mp h2
  have hp:=abS.mp h.1
  rcases Nat.lt_trichotomy i j with z|z|z
  ·have:=hp i j hi hj z;rw[ei,ej] at this;exact this.1
  ·subst z;rw[ei] at ej;subst ej;omega
  ·have:=hp j i hj hi z;rw[ei,ej] at this;omega
 obtain⟨g1,w1⟩:=RO.mp r1
 obtain⟨g2,w2⟩:=RO.mp r2
 have:=abS.mp hr _ _ g1 g2 lq
 rw[w1,w2] at this
 exact this
noncomputable def Lf(kn:Nat→Option Nm):Nat→Nat→Option Nm
 | 0,_=>none
 | k+1,i=>match kn (i+1) with|some m=>some m|none=>Lf kn k (i+1)
noncomputable def sY(p:Str)(kn:Nat→Option Nm):Nat→Nat→Option Nm→List Str→List Ln
 | _,_,_,[]=>[]
 | i,j,u,t::r=>match kn i with
  | some m=>sY p kn (i+1) j (some m) r
  | none=>⟨(p,j),t,u,Lf kn r.length i⟩::sY p kn (i+1) (j+1) (some (p,j)) r
noncomputable def kC(p:Str)(texts:List Str)(kn:Nat→Option Nm):List Ln:=sY p kn 0 0 none texts
noncomputable def mI(p f:Str)(row:List Ln)(texts:List Str):Pt:=
 ⟨p,some f,kC p texts (mX row (K01.kept (row.map (·.tx)) texts)),(row.filter fun l=>l.nm∉ub row (K01.kept (row.map (·.tx)) texts)).map (·.nm),none⟩
theorem uU(p:Str)(kn:Nat→Option Nm):∀(r:List Str)(i j:Nat)(u:Option Nm),(sY p kn i j u r).map (·.nm)=(List.range' j (sY p kn i j u r).length).map fun k=>(p,k)
 | [],_,_,_=>rfl
 | t::r,i,j,u=>by
  unfold sY
  cases h:kn i with
  | some m=>exact uU p kn r (i+1) j (some m)
  | none=>
   simp only [aaw,aae,aci]
   rw[uU p kn r (i+1) (j+1) (some (p,j))]
theorem zj(p:Str)(kn:Nat→Option Nm):∀(r:List Str)(i j:Nat)(u:Option Nm),(sY p kn i j u r).length=((List.range' i r.length).filter fun k=>(kn k).isNone).length
 | [],_,_,_=>rfl
 | t::r,i,j,u=>by
  unfold sY
  rw[aae,aci]
  cases h:kn i with
  | some m=>rw[aaj (by simp[h])];exact zj p kn r (i+1) j (some m)
  | none=>rw[XZ (by simp[h]),aae];simp only [aae];rw[zj p kn r (i+1) (j+1) (some (p,j))]
theorem B3{kn:Nat→Option Nm}{m:Nm}:∀{k i:Nat},Lf kn k i=some m→∃t,i<t∧t≤i+k∧kn t=some m
 | 0,_,h=>by cases h
 | k+1,i,h=>by
  unfold Lf at h
  cases e:kn (i+1) with
  | some m'=>
   rw[e] at h
   cases h
   exact⟨i+1,by omega,by omega,e⟩
  | none=>
   rw[e] at h
   obtain⟨t,h1,h2,h3⟩:=B3 (k:=k) (i:=i+1) h
   exact⟨t,by omega,by omega,h3⟩
theorem yI{p:Str}{kn:Nat→Option Nm}:∀(r:List Str)(i j:Nat)(u:Option Nm),∀l∈sY p kn i j u r,∀m,l.up=some m∨l.lo=some m→(u=some m∨∃t,kn t=some m)∨m∈(sY p kn i j u r).map (·.nm)
 | [],_,_,_,l,hl,_,_=>by cases hl
 | t::r,i,j,u,l,hl,m,hm=>by
  unfold sY at hl ⊢
  cases h:kn i with
  | some m'=>
   rw[h] at hl
   rcases yI r (i+1) j (some m') l hl m hm with(z|z)|z
   ·exact .inl (.inr ⟨i,by rw[h];exact z⟩)
   ·exact .inl (.inr z)
   ·exact .inr z
  | none=>
   rw[h] at hl
   rcases XW.mp hl with rfl|hl
   ·rcases hm with hm|hm
    ·exact .inl (.inl hm)
    ·obtain⟨t,_,_,e⟩:=B3 hm
     exact .inl (.inr ⟨t,e⟩)
   ·rcases yI r (i+1) (j+1) (some (p,j)) l hl m hm with(z|z)|z
    ·cases z
     exact .inr (by rw[aaw];exact aav)
    ·exact .inl (.inr z)
    ·exact .inr (aal _ z)
noncomputable def Jp(rk:Nm→Nat)(kn:Nat→Option Nm):Nat→Nat
 | 0=>0
 | i+1=>match kn i with|some m=>rk m+1|none=>Jp rk kn i
noncomputable def U1(kn:Nat→Option Nm)(n j:Nat):Nat:=(((List.range n).filter fun k=>(kn k).isNone)[j]?).getD 0
noncomputable def Fu(rk:Nm→Nat)(kn:Nat→Option Nm)(p:Str)(n:Nat)(x:Nm):Nat:=if x.1=p then Jp rk kn (U1 kn n x.2)*(n+1)+x.2+1 else(rk x+1)*(n+1)
theorem Jq{rk:Nm→Nat}{kn:Nat→Option Nm}(hk:∀s t a b,kn s=some a→kn t=some b→s<t→rk a<rk b):∀i t b,kn t=some b→i≤t→Jp rk kn i≤rk b
 | 0,_,_,_,_=>aaK _
 | i+1,t,b,h,hi=>by
  unfold Jp
  cases e:kn i with
  | some m=>exact hk i t m b e h (by omega)
  | none=>exact Jq hk i t b h (by omega)
theorem NS{kn:Nat→Option Nm}{n i:Nat}(hi:i<n)(h:kn i=none):U1 kn n ((List.range i).filter fun k=>(kn k).isNone).length=i:=by
 unfold U1
 have e:List.range n=List.range i++i::List.range' (i+1) (n-(i+1)):=by
  have h1:List.range n=List.range i++(List.range' i (n-i)):=by
   have:=List.range'_append_1 (s:=0) (m:=i) (n:=n-i)
   rw[Nat.zero_add,show i+(n-i)=n by omega] at this
   rw[List.range_eq_range',List.range_eq_range',this]
  rw[h1,show n-i=(n-(i+1))+1 by omega,aci]
 rw[e,aaM,XZ (by simp[h]),abe (U0 _),Nat.sub_self]
 rfl
theorem B4{rk:Nm→Nat}{kn:Nat→Option Nm}{p:Str}{n:Nat}(hk:∀s t a b,kn s=some a→kn t=some b→s<t→rk a<rk b)(hp:∀s a,kn s=some a→a.1≠p) :
  ∀(r:List Str)(i j:Nat)(u:Option Nm),i+r.length=n→j=((List.range i).filter fun k=>(kn k).isNone).length→(∀m,u=some m→Fu rk kn p n m≤Jp rk kn i*(n+1)+j)→
   Rk (sY p kn i j u r) (Fu rk kn p n)
 | [],_,_,_,_,_,_=>fun l hl=>by cases hl
 | t::r,i,j,u,hn,hj,hu=>by
  rw[aae] at hn
  have J3:i<n:=by omega
  have FR:j≤i:=by rw[hj];exact aad (aaI _ _) (by rw[acf];exact U0 _)
  have e1:(List.range (i+1)).filter (fun k=>(kn k).isNone)=(List.range i).filter (fun k=>(kn k).isNone)++if(kn i).isNone then[i] else[]:=by
   rw[List.range_succ,aaM]
   congr 1
   cases h:(kn i).isNone<;>simp[h]
  unfold sY
  cases h:kn i with
  | some m=>
   refine B4 hk hp r (i+1) j (some m) (by omega) (by rw[e1,h];simpa using hj) fun m' e=>?_
   cases e
   unfold Fu
   rw[aan (hp i m h),Jp.eq_2,h]
   show(rk m+1)*(n+1)≤(rk m+1)*(n+1)+j
   omega
  | none=>
   have OS:Fu rk kn p n (p,j)=Jp rk kn i*(n+1)+j+1:=by
    unfold Fu
    rw[aas rfl,hj,NS J3 h]
   have hb:Jp rk kn (i+1)=Jp rk kn i:=by rw[Jp.eq_2,h]
   intro l hl
   rcases XW.mp hl with rfl|hl
   ·refine⟨fun m hm=>?_,fun m hm=>?_⟩
    ·have:=hu m hm
     show Fu rk kn p n m<Fu rk kn p n (p,j)
     omega
    ·obtain⟨t',YA,VJ,e⟩:=B3 hm
     show Fu rk kn p n (p,j)<Fu rk kn p n m
     have hle:=Jq hk i t' m e (by omega)
     rw[OS]
     unfold Fu
     rw[aan (hp t' m e)]
     have h1:Jp rk kn i*(n+1)≤rk m*(n+1):=Nat.mul_le_mul_right _ hle
     have h2:(rk m+1)*(n+1)=rk m*(n+1)+(n+1):=Nat.succ_mul _ _
     omega
   ·refine B4 hk hp r (i+1) (j+1) (some (p,j)) (by omega) (by rw[e1,h,hj];simp) (fun m' e=>?_) l hl
    cases e
    rw[OS,hb]
    omega
theorem Jr{rk:Nm→Nat}{kn:Nat→Option Nm}{p:Str}(hk:∀s t a b,kn s=some a→kn t=some b→s<t→rk a<rk b)(hp:∀s a,kn s=some a→a.1≠p)(texts:List Str):Rk (kC p texts kn) (Fu rk kn p texts.length):=
 B4 hk hp texts 0 0 none (by omega) rfl fun m e=>by cases e
theorem Js{rk:Nm→Nat}{kn:Nat→Option Nm}{p:Str}{n:Nat}{ls:List Ln}(r:Rk ls rk)(h:∀l∈ls,l.nm.1≠p∧∀m,l.up=some m∨l.lo=some m→m.1≠p):Rk ls (Fu rk kn p n):=by
 intro l hl
 obtain⟨h1,h2⟩:=h l hl
 have e:∀x:Nm,x.1≠p→Fu rk kn p n x=(rk x+1)*(n+1):=fun x hx=>by unfold Fu;rw[aan hx]
 refine⟨fun m hm=>?_,fun m hm=>?_⟩
 ·rw[e _ h1,e _ (h2 m (.inl hm))]
  exact Nat.mul_lt_mul_of_pos_right (Nat.succ_lt_succ ((r l hl).1 m hm)) (Nat.succ_pos _)
 ·rw[e _ h1,e _ (h2 m (.inr hm))]
  exact Nat.mul_lt_mul_of_pos_right (Nat.succ_lt_succ ((r l hl).2 m hm)) (Nat.succ_pos _)
theorem DP{xs ys:List Nat}(nd:xs.Nodup)(h:∀x∈xs,x∈ys):xs.length≤ys.length:=by
 have:=len_sub (xs:=xs.map fun k=>((Str.empty,k):Nm)) (ys:=ys.map fun k=>(Str.empty,k)) (List.pairwise_map.mpr (nd.imp fun h z=>h (aa5 Prod.snd z))) fun x hx=>by
  obtain⟨k,hk,rfl⟩:=aaH.mp hx
  exact aaa (h k hk)
 rwa [RK,RK] at this
theorem zl{α:Type}(p:α→Bool):∀xs:List α,(xs.filter p).length+(xs.filter fun x=>!p x).length=xs.length
 | []=>rfl
 | x::r=>by
  have:=zl p r
  cases h:p x<;>simp[h]<;>omega
theorem Gw{row:List Ln}{texts:List Str}{qs:List (Nat×Nat)}(h:Hm row.length texts.length qs)(p:Str):(kC p texts (mX row qs)).length+qs.length=texts.length:=by
 unfold kC
 rw[zj,←List.range_eq_range']
 have h2:=zl (fun k=>(mX row qs k).isNone) (List.range texts.length)
 rw[acf] at h2
 have h3:((List.range texts.length).filter fun x=>!(mX row qs x).isNone).length=qs.length:=by
  have nd:(qs.map (·.2)).Nodup:=List.pairwise_map.mpr (h.1.imp fun z e=>by omega)
  refine Nat.le_antisymm ?_ ?_
  ·have:=DP (xs:=(List.range texts.length).filter fun x=>!(mX row qs x).isNone) (ys:=qs.map (·.2)) (List.nodup_range.sublist aaV) fun x hx=>by
    have h4:=(aaq.mp hx).2
    have h5:(mX row qs x).isSome=true:=by cases e:mX row qs x<;>simp[e] at h4 ⊢
    rw[B2 h] at h5
    exact aaB h5
   rwa [RK] at this
  ·have:=DP (xs:=qs.map (·.2)) (ys:=(List.range texts.length).filter fun x=>!(mX row qs x).isNone) nd fun x hx=>by
    refine aaq.mpr ⟨acg.mpr ?_,?_⟩
    ·obtain⟨q,hq,rfl⟩:=aaH.mp hx
     exact(h.2 q hq).2
    ·have h5:=B2 h x
     rw[XU hx] at h5
     cases e:mX row qs x<;>simp[e] at h5 ⊢
   rwa [RK] at this
 omega
structure Dk where
 made:List Pt
 ij:Str→List Str
 stores:List Str
 held:Str→List Str
noncomputable def named(p:Pt):List Nm:=p.i4++p.ig.flatMap fun l=>l.up.toList++l.lo.toList
noncomputable def il(p:Pt):List Str:=((named p).filter fun n=>n.1≠p.nm).map (·.1)++p.other.toList
noncomputable def qb(nd:Str→List Str)(p:Pt):List Str:=(il p).flatMap fun y=>y::nd y
namespace Dk
noncomputable def names(D:Dk):List Str:=D.made.map (·.nm)
noncomputable def keep(D:Dk)(s:Str)(p:Pt):Dk:=⟨D.made++[p],fun x=>if x=p.nm then qb D.ij p else D.ij x,D.stores,fun t=>if t=s then D.held s++[p.nm] else D.held t⟩
noncomputable def begin(D:Dk)(s:Str):Dk:=⟨D.made,D.ij,D.stores++[s],fun t=>if t=s then[] else D.held t⟩
noncomputable def qM(D:Dk)(s:Str):List Pt:=D.made.filter fun p=>p.nm∈D.held s
noncomputable def has(D:Dk)(s:Str):List Str:=D.names.filter fun x=>x∈D.held s
noncomputable def jz(D:Dk)(x:Str):List Str:=D.names.filter fun y=>y∈D.ij x
noncomputable def oq(D:Dk)(s x:Str):List Str:=(D.jz x++[x]).filter fun y=>y∉D.held s
noncomputable def take(D:Dk)(s x:Str):Dk:=⟨D.made,D.ij,D.stores,fun t=>if t=s then D.held s++D.oq s x else D.held t⟩
noncomputable def drop(D:Dk)(s x:Str):Dk:=⟨D.made,D.ij,D.stores,fun t=>if t=s then(D.held s).filter (fun y=>y≠x) else D.held t⟩
noncomputable def row(D:Dk)(s f:Str):List Ln:=rowOf (Ah (hU (D.qM s) f)) (nU (D.qM s) f)
noncomputable def DQ(D:Dk)(s f:Str):List (Nat×Nat):=kY (Ah (hU (D.qM s) f)) (D.row s f)
theorem Gx(D:Dk)(s:Str):D.has s=(D.qM s).map (·.nm):=by
 unfold has qM names
 rw[List.filter_map];rfl
end Dk
structure Inv(D:Dk):Prop where
 nd:D.names.Nodup
 Gy:∀p∈D.made,p.ig.map (·.nm)=(List.range p.ig.length).map fun j=>(p.nm,j)
 refs:∀p∈D.made,∀l∈p.ig,∀m,l.up=some m∨l.lo=some m→∃q∈D.made,q.file=p.file∧m∈q.ig.map (·.nm)∧(q.nm=p.nm∨q.nm∈D.ij p.nm)
 rank:∃rk,∀p∈D.made,Rk p.ig rk
 before:∀i p,D.made[i]?=some p→∀x∈D.ij p.nm,x∈(D.made.take i).map (·.nm)
 trans:∀x∈D.names,∀y∈D.ij x,∀z∈D.ij y,z∈D.ij x
 stN:D.stores.Nodup
 ly:∀s∈D.stores,∀x∈D.held s,x∈D.names∧∀y∈D.ij x,y∈D.held s
 uV:∀s∈D.stores,(D.held s).Nodup
 Fv:∀p∈D.made,∀n∈p.i4,n.1≠p.nm
 need:∀p∈D.made,∀y,y∈D.ij p.nm↔∃z∈il p,y=z∨y∈D.ij z
theorem qc{p:Pt}(h:p.ig.map (·.nm)=(List.range p.ig.length).map fun j=>(p.nm,j)){m:Nm}(hm:m∈p.ig.map (·.nm)):m.1=p.nm:=by
 rw[h] at hm
 obtain⟨j,_,rfl⟩:=aaH.mp hm
 rfl
theorem Lg{ps:List Pt}(nd:(ps.map (·.nm)).Nodup){p q:Pt}(hp:p∈ps)(hq:q∈ps)(e:p.nm=q.nm):p=q:=by
 induction ps with
 | nil=>cases hp
 | cons x r ih=>
  rw[aaw,aaX] at nd
  rcases XW.mp hp with h1|h1
  ·rcases XW.mp hq with h2|h2
   ·rw[h1,h2]
   ·exact absurd (by rw[←h1,e];exact aaa h2) nd.1
  ·rcases XW.mp hq with h2|h2
   ·exact absurd (by rw[←h2,←e];exact aaa h1) nd.1
   ·exact ih nd.2 h1 h2
theorem Fw{ps:List Pt}(nd:(ps.map (·.nm)).Nodup)(h:∀p∈ps,p.ig.map (·.nm)=(List.range p.ig.length).map fun j=>(p.nm,j)):((ps.flatMap (·.ig)).map (·.nm)).Nodup:=by
 induction ps with
 | nil=>exact abb
 | cons x r ih=>
  rw[aaw,aaX] at nd
  rw[aaA,aau,aa2]
  refine⟨?_,ih nd.2 fun p hp=>h p (aal _ hp),fun a ha b hb e=>?_⟩
  ·rw[h x aav]
   exact List.pairwise_map.mpr (List.nodup_range.imp fun z e=>z (aa5 Prod.snd e))
  ·have e1:=qc (h x aav) ha
   obtain⟨l,hl,rfl⟩:=aaH.mp hb
   obtain⟨q,hq,hlq⟩:=aa6.mp hl
   have e2:=qc (h q (aal _ hq)) (aaa hlq)
   exact nd.1 (by rw[←e1,e,e2];exact aaa hq)
theorem lP{ps:List Pt}{f:Str}{l:Ln}:l∈hU ps f↔∃p∈ps,p.file=some f∧l∈p.ig:=by
 unfold hU
 rw[aa6]
 constructor
 ·rintro⟨p,hp,hl⟩
  obtain⟨h1,h2⟩:=aaq.mp hp
  exact⟨p,h1,aaB h2,hl⟩
 ·rintro⟨p,h1,h2,hl⟩
  exact⟨p,aaq.mpr ⟨h1,XU h2⟩,hl⟩
theorem uW(ps:List Pt)(f:Str):(hU ps f).Sublist (ps.flatMap (·.ig)):=by
 unfold hU
 have h:=aaV (p:=fun p:Pt=>decide (p.file=some f)) (l:=ps)
 generalize ps.filter _=qs at h
 induction h with
 | slnil=>exact aaG _
 | cons x _ ih=>rw[aaA];exact ih.trans (aa4 _ _)
 | cons_cons x _ ih=>rw[aaA,aaA];exact(aaG _).append ih
namespace Inv
variable{D:Dk}
theorem k_{s:Str}{p:Pt}:p∈D.qM s↔p∈D.made∧p.nm∈D.held s:=by
 unfold Dk.qM
 rw[aaq,decide_eq_true_iff]
theorem yJ(s:Str):(D.qM s).Sublist D.made:=aaV
theorem nodup(I:Inv D)(s f:Str):((hU (D.qM s) f).map (·.nm)).Nodup:=
 ((uW _ f).map _).nodup (Fw (((yJ s).map _).nodup I.nd) fun p hp=>I.Gy p (yJ s |>.subset hp))
theorem NT(I:Inv D)(s f:Str):((nU (D.qM s) f).map (·.nm)).Nodup:=((lO _ f).map _).nodup (I.nodup s f)
theorem closed(I:Inv D){s:Str}(hs:s∈D.stores)(f:Str):qa (hU (D.qM s) f):=by
 have key:∀l∈hU (D.qM s) f,∀m,l.up=some m∨l.lo=some m→m∈(hU (D.qM s) f).map (·.nm):=fun l hl m hm=>by
  obtain⟨p,hp,hf,hl⟩:=lP.mp hl
  obtain⟨hp,hh⟩:=k_.mp hp
  obtain⟨q,hq,e,VL,hn⟩:=I.refs p hp l hl m hm
  obtain⟨l',LY,rfl⟩:=aaH.mp VL
  refine aaa (lP.mpr ⟨q,k_.mpr ⟨hq,?_⟩,by rw[e];exact hf,LY⟩)
  rcases hn with hn|hn
  ·rw[hn];exact hh
  ·exact(I.ly s hs _ hh).2 _ hn
 exact fun l hl=>⟨fun m hm=>key l hl m (.inl hm),fun m hm=>key l hl m (.inr hm)⟩
theorem QG(I:Inv D)(s f:Str):Jn (hU (D.qM s) f):=by
 obtain⟨rk,h⟩:=I.rank
 refine⟨rk,fun l hl=>?_⟩
 obtain⟨p,hp,_,hl⟩:=lP.mp hl
 exact h p (k_.mp hp).1 l hl
theorem zm(I:Inv D)(s f:Str):(D.row s f).Perm (nU (D.qM s) f):=by
 obtain⟨rk,r⟩:=I.QG s f
 exact Ft (rk:=rk) (fun m n z=>r.ah z) (I.NT s f)
theorem uX(I:Inv D){s f:Str}{l:Ln}(h:l∈D.row s f):∃p∈D.qM s,p.file=some f∧l∈p.ig:=
 lP.mp ((lO _ f).subset ((I.zm s f).subset h))
theorem uY(I:Inv D)(s f:Str):(D.row s f).length≤(D.made.flatMap (·.ig)).length:=by
 rw[(I.zm s f).length_eq]
 refine aad (lO _ f).length_le (aad (uW _ f).length_le ?_)
 have h:=yJ (D:=D) s
 generalize D.qM s=qs at h
 generalize D.made=ms at h
 clear I
 induction h with
 | slnil=>exact U0 _
 | cons x _ ih=>rw[aaA,UZ];omega
 | cons_cons x _ ih=>rw[aaA,aaA,UZ,UZ];omega
open Classical in
theorem chain{lt:Nm→Nm→Prop}{row:List Ln}(hq:kY lt row=[]):row.Pairwise fun a b=>lt a.nm b.nm:=by
 rw[abS]
 intro i j hi hj VM
 by_cases c:ltAt lt row i j
 ·obtain⟨a,b,ha,hb,z⟩:=c
  rw[VN hi] at ha
  rw[VN hj] at hb
  cases ha;cases hb
  exact z
 ·exfalso
  have:(i,j)∈kY lt row:=by
   unfold kY
   refine aa6.mpr ⟨i,acg.mpr hi,aaH.mpr ⟨j,aaq.mpr ⟨List.mem_range'.mpr ⟨j-(i+1),by omega,by omega⟩,XU c⟩,rfl⟩⟩
  rw[hq] at this
  cases this
theorem keep(I:Inv D){s:Str}{p:Pt}(hs:s∈D.stores)(fresh:p.nm∉D.names)(Gy:p.ig.map (·.nm)=(List.range p.ig.length).map fun j=>(p.nm,j))
  (refs:∀l∈p.ig,∀m,l.up=some m∨l.lo=some m→m∈p.ig.map (·.nm)∨∃q∈D.qM s,q.file=p.file∧m∈q.ig.map (·.nm))
  (i4:∀m∈p.i4,∃q∈D.qM s,m∈q.ig.map (·.nm)) (other:∀o,p.other=some o→o∈D.held s)
  (rank:∃rk,(∀q∈D.made,Rk q.ig rk)∧Rk p.ig rk):Inv (D.keep s p):=by
 have qA:∀x∈D.names,x≠p.nm:=fun x hx e=>fresh (e▸hx)
 have Kw:∀q∈D.made,q.nm∈D.names:=fun q hq=>aaa hq
 have LZ:∀x,x≠p.nm→(D.keep s p).ij x=D.ij x:=fun x hx=>aan hx
 have RM:(D.keep s p).ij p.nm=qb D.ij p:=aas rfl
 have Tq:∀x∈il p,x∈D.held s:=fun x hx=>by
  unfold il at hx
  rcases XX.mp hx with hx|hx
  ·obtain⟨m,hm,rfl⟩:=aaH.mp hx
   obtain⟨hm,hn⟩:=aaq.mp hm
   have hn:m.1≠p.nm:=aaB hn
   have fin:(∃q∈D.qM s,m∈q.ig.map (·.nm))→m.1∈D.held s:=fun⟨q,hq,VL⟩=>by
    obtain⟨h1,h2⟩:=k_.mp hq
    rw[qc (I.Gy q h1) VL];exact h2
   rcases XX.mp hm with hm|hm
   ·exact fin (i4 m hm)
   ·obtain⟨l,hl,hm⟩:=aa6.mp hm
    have OR:l.up=some m∨l.lo=some m:=by
     rcases XX.mp hm with hm|hm
     ·exact .inl (by simpa using hm)
     ·exact .inr (by simpa using hm)
    rcases refs l hl m OR with z|⟨q,hq,_,z⟩
    ·exact absurd (qc Gy z) hn
    ·exact fin ⟨q,hq,z⟩
  ·exact other x (by simpa using hx)
 have nh:∀x∈qb D.ij p,x∈D.held s:=fun x hx=>by
  obtain⟨y,hy,hx⟩:=aa6.mp hx
  rcases XW.mp hx with rfl|hx
  ·exact Tq _ hy
  ·exact(I.ly s hs y (Tq y hy)).2 x hx
 have nn:∀x∈qb D.ij p,x∈D.names:=fun x hx=>(I.ly s hs x (nh x hx)).1
 have MB:∀x∈D.names,∀y∈D.ij x,y∈D.names:=fun x hx y hy=>by
  obtain⟨q,hq,rfl⟩:=aaH.mp hx
  obtain⟨i,hi⟩:=aaP.mp hq
  have:=I.before i q hi y hy
  exact(ace i D.made).map _ |>.subset this
 refine⟨?_,fun q hq=>?_,fun q hq l hl m hm=>?_,?_,fun i q hq x hx=>?_,fun x hx y hy z hz=>?_,I.stN,fun t ht x hx=>?_,fun t ht=>?_,fun q hq n hn=>?_,fun q hq y=>?_⟩
 ·show((D.made++[p]).map (·.nm)).Nodup
  rw[aau,aa2]
  exact⟨I.nd,by simp,fun a ha b hb e=>fresh (by simp at hb;rw[←hb,←e];exact ha)⟩
 ·rcases XX.mp hq with hq|hq
  ·exact I.Gy q hq
  ·rw[US.mp hq];exact Gy
 ·rcases XX.mp hq with hq|hq
  ·obtain⟨q',h1,h2,h3,h4⟩:=I.refs q hq l hl m hm
   refine⟨q',aat _ h1,h2,h3,h4.imp id fun z=>?_⟩
   rw[LZ _ (qA _ (Kw q hq))];exact z
  ·rw[US.mp hq] at hl ⊢
   rcases refs l hl m hm with z|⟨q',h1,h2,h3⟩
   ·exact⟨p,by show p∈D.made++[p];simp,rfl,z,.inl rfl⟩
   ·obtain⟨h4,h5⟩:=k_.mp h1
    refine⟨q',aat _ h4,h2,h3,.inr ?_⟩
    rw[RM]
    have e:=qc (I.Gy q' h4) h3
    refine aa6.mpr ⟨q'.nm,?_,aav⟩
    unfold il
    refine aat _ (aaH.mpr ⟨m,aaq.mpr ⟨?_,XU ?_⟩,e⟩)
    ·unfold named
     refine aaL _ (aa6.mpr ⟨l,hl,?_⟩)
     rcases hm with hm|hm
     ·exact aat _ (by rw[hm];simp)
     ·exact aaL _ (by rw[hm];simp)
    ·rw[e];exact qA _ (Kw q' h4)
 ·obtain⟨rk,h1,h2⟩:=rank
  refine⟨rk,fun q hq=>?_⟩
  rcases XX.mp hq with hq|hq
  ·exact h1 q hq
  ·rw[US.mp hq];exact h2
 ·show x∈((D.made++[p]).take i).map (·.nm)
  have hq:(D.made++[p])[i]?=some q:=hq
  by_cases hi:i<D.made.length
  ·rw[abR hi] at hq
   rw[List.take_append_of_le_length (by omega)]
   rw[LZ _ (qA _ (Kw q (VI hq)))] at hx
   exact I.before i q hq x hx
  ·have hl:=(RO.mp hq).1
   rw[UZ] at hl
   have hi:i=D.made.length:=by have:[p].length=1:=rfl;omega
   subst hi
   rw[abe (U0 _),Nat.sub_self] at hq
   cases hq
   rw[List.take_append_of_le_length (U0 _),aaf]
   rw[RM] at hx
   exact nn x hx
 ·have hx:x∈(D.made++[p]).map (·.nm):=hx
  rw[aau] at hx
  rcases XX.mp hx with hx|hx
  ·rw[LZ _ (qA x hx)] at hy ⊢
   rw[LZ _ (qA y (MB x hx y hy))] at hz
   exact I.trans x hx y hy z hz
  ·have hx:x=p.nm:=by simpa using hx
   rw[hx,RM] at hy ⊢
   rw[LZ _ (qA y (nn y hy))] at hz
   obtain⟨w,hw,hy⟩:=aa6.mp hy
   refine aa6.mpr ⟨w,hw,aal _ ?_⟩
   rcases XW.mp hy with rfl|hy
   ·exact hz
   ·exact I.trans w (I.ly s hs w (Tq w hw)).1 y hy z hz
 ·have old:∀u∈D.stores,∀x∈D.held u,x∈(D.keep s p).names∧∀y∈(D.keep s p).ij x,y∈D.held u:=fun u hu x hx=>by
   obtain⟨h1,h2⟩:=I.ly u hu x hx
   refine⟨?_,fun y hy=>?_⟩
   ·show x∈(D.made++[p]).map (·.nm)
    rw[aau];exact aat _ h1
   ·rw[LZ _ (qA x h1)] at hy
    exact h2 y hy
  have hx:x∈(if t=s then D.held s++[p.nm] else D.held t):=hx
  show x∈(D.keep s p).names∧∀y∈(D.keep s p).ij x,y∈(if t=s then D.held s++[p.nm] else D.held t)
  by_cases e:t=s
  ·rw[aas e] at hx ⊢
   rcases XX.mp hx with hx|hx
   ·obtain⟨h1,h2⟩:=old s hs x hx
    exact⟨h1,fun y hy=>aat _ (h2 y hy)⟩
   ·have hx:x=p.nm:=by simpa using hx
    rw[hx]
    refine⟨?_,fun y hy=>?_⟩
    ·show p.nm∈(D.made++[p]).map (·.nm)
     simp
    ·rw[RM] at hy
     exact aat _ (nh y hy)
  ·rw[aan e] at hx ⊢
   exact old t ht x hx
 ·show(if t=s then D.held s++[p.nm] else D.held t).Nodup
  by_cases e:t=s
  ·rw[aas e,aa2]
   exact⟨I.uV s hs,by simp,fun a ha b hb z=>fresh (by simp at hb;rw[←hb,←z];exact(I.ly s hs a ha).1)⟩
  ·rw[aan e];exact I.uV t ht
 ·rcases XX.mp hq with hq|hq
  ·exact I.Fv q hq n hn
  ·rw[US.mp hq] at hn ⊢
   obtain⟨q',h1,h2⟩:=i4 n hn
   rw[qc (I.Gy q' (k_.mp h1).1) h2]
   exact qA _ (Kw q' (k_.mp h1).1)
 ·rcases XX.mp hq with hq|hq
  ·rw[LZ _ (qA _ (Kw q hq)),I.need q hq y]
   have e:∀z∈il q,(D.keep s p).ij z=D.ij z:=fun z hz=>LZ z (qA z (MB q.nm (Kw q hq) z ((I.need q hq z).mpr ⟨z,hz,.inl rfl⟩)))
   exact⟨fun⟨z,h1,h2⟩=>⟨z,h1,by rw[e z h1];exact h2⟩,fun⟨z,h1,h2⟩=>⟨z,h1,by rw[e z h1] at h2;exact h2⟩⟩
  ·rw[US.mp hq,RM]
   have e:∀z∈il p,(D.keep s p).ij z=D.ij z:=fun z hz=>LZ z (qA z (I.ly s hs z (Tq z hz)).1)
   unfold qb
   rw[aa6]
   exact⟨fun⟨z,h1,h2⟩=>⟨z,h1,by rw[e z h1];exact XW.mp h2⟩,fun⟨z,h1,h2⟩=>⟨z,h1,by rw[e z h1] at h2;exact XW.mpr h2⟩⟩
theorem record(I:Inv D){s f x:Str}(hs:s∈D.stores)(fresh:x∉D.names)(hq:D.DQ s f=[])(texts:List Str):Inv (D.keep s (mI x f (D.row s f) texts)):=by
 obtain⟨rk,OS⟩:=I.rank
 have rise:=sM ((D.row s f).map (·.tx)) texts
 rw[RK] at rise
 have RN:∀t m,mX (D.row s f) (K01.kept ((D.row s f).map (·.tx)) texts) t=some m→∃q∈D.qM s,q.file=some f∧m∈q.ig.map (·.nm):=fun t m h=>by
  obtain⟨q,_,_,l,hl,rfl⟩:=B1 h
  obtain⟨p,h1,h2,h3⟩:=I.uX (VI hl)
  exact⟨p,h1,h2,aaa h3⟩
 have own:∀q∈D.made,∀m∈q.ig.map (·.nm),m.1≠x:=fun q hq m hm e=>fresh (by rw[←e,qc (I.Gy q hq) hm];exact aaa hq)
 have ch:(D.row s f).Pairwise fun a b=>rk a.nm<rk b.nm:=by
  have tr:Rk (hU (D.qM s) f) rk:=fun l hl=>by
   obtain⟨p,hp,_,hl⟩:=lP.mp hl
   exact OS p (k_.mp hp).1 l hl
  exact(chain hq).imp fun z=>tr.ah z
 refine I.keep hs fresh ?_ (fun l hl m hm=>?_) (fun m hm=>?_) (fun o ho=>by cases ho) ⟨Fu rk (mX (D.row s f) (K01.kept ((D.row s f).map (·.tx)) texts)) x texts.length,fun q hq=>?_,?_⟩
 ·show(kC x texts _).map (·.nm)=(List.range (kC x texts _).length).map fun j=>(x,j)
  unfold kC
  rw[uU,←List.range_eq_range']
 ·rcases yI texts 0 0 none l hl m hm with(z|⟨t,z⟩)|z
  ·cases z
  ·exact .inr (RN t m z)
  ·exact .inl z
 ·obtain⟨l,hl,rfl⟩:=aaH.mp hm
  obtain⟨p,h1,_,h3⟩:=I.uX (aaq.mp hl).1
  exact⟨p,h1,aaa h3⟩
 ·refine Js (OS q hq) fun l hl=>⟨own q hq _ (aaa hl),fun m hm=>?_⟩
  obtain⟨q',h1,_,h3,_⟩:=I.refs q hq l hl m hm
  exact own q' h1 m h3
 ·refine Jr (fun a b c d h1 h2 h3=>Le rise ch h1 h2 h3) (fun t m h=>?_) texts
  obtain⟨q,h1,_,h3⟩:=RN t m h
  exact own q (k_.mp h1).1 m h3
theorem cut(I:Inv D){s f x:Str}(hs:s∈D.stores)(fresh:x∉D.names){ms:List Nm}(hm:∀m∈ms,m∈(D.row s f).map (·.nm)):Inv (D.keep s ⟨x,some f,[],ms,none⟩):=by
 refine I.keep hs fresh rfl (fun l hl=>by cases hl) (fun m h=>?_) (fun o ho=>by cases ho) ?_
 ·obtain⟨l,hl,rfl⟩:=aaH.mp (hm m h)
  obtain⟨p,h1,_,h3⟩:=I.uX hl
  exact⟨p,h1,aaa h3⟩
 ·obtain⟨rk,h⟩:=I.rank
  exact⟨rk,h,fun l hl=>by cases hl⟩
theorem back(I:Inv D){s x o:Str}(hs:s∈D.stores)(fresh:x∉D.names)(ho:o∈D.held s):Inv (D.keep s ⟨x,none,[],[],some o⟩):=by
 refine I.keep hs fresh rfl (fun l hl=>by cases hl) (fun m h=>by cases h) (fun o' h=>by cases h;exact ho) ?_
 obtain⟨rk,h⟩:=I.rank
 exact⟨rk,h,fun l hl=>by cases hl⟩
theorem Bj(I:Inv D){x:Str}(hx:x∈D.names):x∉D.ij x:=fun h=>by
 obtain⟨q,hq,rfl⟩:=aaH.mp hx
 obtain⟨i,hi⟩:=aaP.mp hq
 have h1:=I.before i q hi _ h
 rw[List.map_take] at h1
 obtain⟨j,hj⟩:=aaP.mp h1
 have FR:j<i:=by have:=(RO.mp hj).1;rw[aap] at this;omega
 rw[abD,aas FR] at hj
 have e3:(D.made.map (·.nm))[i]?=some q.nm:=by rw[aak,hi];rfl
 have:=(abJ (RO.mp hj).1 I.nd).mp (hj.trans e3.symm)
 omega
theorem qd(I:Inv D){x y:Str}(hx:x∈D.names)(hy:y∈D.ij x):y∈D.names:=by
 obtain⟨q,hq,rfl⟩:=aaH.mp hx
 obtain⟨i,hi⟩:=aaP.mp hq
 exact(ace i D.made).map _ |>.subset (I.before i q hi y hy)
theorem take(I:Inv D){s x:Str}(hs:s∈D.stores)(hx:x∈D.names):Inv (D.take s x):=by
 have cm:∀y∈D.oq s x,(y=x∨y∈D.ij x)∧y∉D.held s:=fun y hy=>by
  obtain⟨h1,h2⟩:=aaq.mp hy
  refine⟨?_,aaB h2⟩
  rcases XX.mp h1 with h|h
  ·exact .inr (aaB (aaq.mp h).2)
  ·exact .inl (by simpa using h)
 have YB:∀y,y=x∨y∈D.ij x→y∈D.held s++D.oq s x:=fun y hy=>by
  by_cases h:y∈D.held s
  ·exact aat _ h
  ·refine aaL _ (aaq.mpr ⟨?_,XU h⟩)
   rcases hy with rfl|hy
   ·simp
   ·exact aat _ (aaq.mpr ⟨I.qd hx hy,XU hy⟩)
 refine⟨I.nd,I.Gy,I.refs,I.rank,I.before,I.trans,I.stN,fun t ht z hz=>?_,fun t ht=>?_,I.Fv,I.need⟩
 ·have hz:z∈(if t=s then D.held s++D.oq s x else D.held t):=hz
  show z∈D.names∧∀y∈D.ij z,y∈(if t=s then D.held s++D.oq s x else D.held t)
  by_cases e:t=s
  ·rw[aas e] at hz ⊢
   rcases XX.mp hz with hz|hz
   ·obtain⟨h1,h2⟩:=I.ly s hs z hz
    exact⟨h1,fun y hy=>aat _ (h2 y hy)⟩
   ·obtain⟨h1,_⟩:=cm z hz
    rcases h1 with rfl|h1
    ·exact⟨hx,fun y hy=>YB y (.inr hy)⟩
    ·exact⟨I.qd hx h1,fun y hy=>YB y (.inr (I.trans x hx z h1 y hy))⟩
  ·rw[aan e] at hz ⊢
   exact I.ly t ht z hz
 ·show(if t=s then D.held s++D.oq s x else D.held t).Nodup
  by_cases e:t=s
  ·rw[aas e,aa2]
   refine⟨I.uV s hs,?_,fun a ha b hb z=>(cm b hb).2 (z▸ha)⟩
   refine ab6 aaV ?_
   rw[aa2]
   refine⟨ab6 aaV I.nd,by simp,fun a ha b hb z=>?_⟩
   rw[US.mp hb] at z
   subst z
   exact I.Bj hx (aaB (aaq.mp ha).2)
  ·rw[aan e];exact I.uV t ht
theorem drop(I:Inv D){s x:Str}(hs:s∈D.stores)(hx:∀z∈D.held s,x∉D.ij z):Inv (D.drop s x):=by
 refine⟨I.nd,I.Gy,I.refs,I.rank,I.before,I.trans,I.stN,fun t ht z hz=>?_,fun t ht=>?_,I.Fv,I.need⟩
 ·have hz:z∈(if t=s then(D.held s).filter (fun y=>y≠x) else D.held t):=hz
  show z∈D.names∧∀y∈D.ij z,y∈(if t=s then(D.held s).filter (fun y=>y≠x) else D.held t)
  by_cases e:t=s
  ·rw[aas e] at hz ⊢
   have hz:=(aaq.mp hz).1
   obtain⟨h1,h2⟩:=I.ly s hs z hz
   exact⟨h1,fun y hy=>aaq.mpr ⟨h2 y hy,XU fun e=>hx z hz (e▸hy)⟩⟩
  ·rw[aan e] at hz ⊢
   exact I.ly t ht z hz
 ·show(if t=s then(D.held s).filter (fun y=>y≠x) else D.held t).Nodup
  by_cases e:t=s
  ·rw[aas e];exact ab6 aaV (I.uV s hs)
  ·rw[aan e];exact I.uV t ht
theorem begin(I:Inv D){s:Str}(hs:s∉D.stores):Inv (D.begin s):=by
 refine⟨I.nd,I.Gy,I.refs,I.rank,I.before,I.trans,?_,fun t ht z hz=>?_,fun t ht=>?_,I.Fv,I.need⟩
 ·show(D.stores++[s]).Nodup
  rw[aa2]
  exact⟨I.stN,by simp,fun a ha b hb e=>hs (by rw[←US.mp hb,←e];exact ha)⟩
 ·have hz:z∈(if t=s then[] else D.held t):=hz
  show z∈D.names∧∀y∈D.ij z,y∈(if t=s then[] else D.held t)
  by_cases e:t=s
  ·rw[aas e] at hz;cases hz
  ·rw[aan e] at hz ⊢
   rcases XX.mp ht with ht|ht
   ·exact I.ly t ht z hz
   ·exact absurd (US.mp ht) e
 ·show(if t=s then[] else D.held t).Nodup
  by_cases e:t=s
  ·rw[aas e];exact abb
  ·rw[aan e]
   rcases XX.mp ht with ht|ht
   ·exact I.uV t ht
   ·exact absurd (US.mp ht) e
theorem Bk(I:Inv D){s x:Str}{xs:List Str}(hs:s∈D.stores)(h:D.has s=xs++[x]):∀z∈D.held s,x∉D.ij z:=by
 intro z hz hx
 obtain⟨Tr,_⟩:=I.ly s hs z hz
 obtain⟨q,hq,rfl⟩:=aaH.mp Tr
 obtain⟨i,hi⟩:=aaP.mp hq
 have h1:=I.before i q hi x hx
 have e:D.names=(D.made.take i).map (·.nm)++q.nm::(D.made.drop (i+1)).map (·.nm):=by
  have AW:=(RO.mp hi).1
  unfold Dk.names
  conv=>lhs;rw[←abB i D.made,aaT AW,(RO.mp hi).2]
  rw[aau,aaw]
 have hn:=I.nd
 rw[e,aa2,aaX] at hn
 unfold Dk.has at h
 rw[e,aaM,XZ (p:=fun y=>decide (y∈D.held s)) (XU hz)] at h
 have hl:x∈q.nm::((D.made.drop (i+1)).map (·.nm)).filter fun y=>decide (y∈D.held s):=by
  have h2:=aa5 List.getLast? h
  rw[List.getLast?_append,List.getLast?_append] at h2
  have h3:(q.nm::((D.made.drop (i+1)).map (·.nm)).filter fun y=>decide (y∈D.held s)).getLast?=some x:=by
   cases e4:(q.nm::((D.made.drop (i+1)).map (·.nm)).filter fun y=>decide (y∈D.held s)).getLast? with
   | none=>simp at e4
   | some y=>rw[e4] at h2;simpa using h2
  exact List.mem_of_getLast? h3
 have LY:x∈q.nm::(D.made.drop (i+1)).map (·.nm):=by
  rcases XW.mp hl with z|z
  ·rw[z];exact aav
  ·exact aal _ (aaq.mp z).1
 exact hn.2.2 x h1 x LY rfl
end Inv
end PM
namespace PK
open PySem L2
set_option genInjectivity false
set_option genSizeOf false
set_option genSizeOfSpec false
noncomputable def top(i:Nat):Stmt:=PySem.Challenge.pw_patchkin_k06_what_a_patch_leans_on.main.body.getD i (.Pass ⟨0,0,0,0⟩)
noncomputable section
noncomputable abbrev nL(l:List Str):List Str:=l
abbrev o5:=top 2
abbrev qf:=top 3
abbrev qg:=top 4
abbrev Fx:=top 5
noncomputable abbrev mY:=inClass (top 17) 0
noncomputable abbrev ma:=inClass (top 18) 0
abbrev kK:=top 19
abbrev jS:=top 20
abbrev nV:=top 21
abbrev rn:=top 22
abbrev kL:=top 23
abbrev nX:=top 24
abbrev me:=top 25
abbrev zo:=top 26
abbrev oH:=top 27
abbrev qh:=top 28
abbrev uZ:=top 29
noncomputable abbrev mf:=inClass (top 30) 0
noncomputable abbrev mi:=inClass (top 30) 1
noncomputable abbrev kT:=inClass (top 30) 2
abbrev qi:=top 34
abbrev nY:=top 35
abbrev o6:=top 36
abbrev rp:=top 37
abbrev jZ:=top 38
noncomputable abbrev mZ:=inClass (top 39) 0
noncomputable abbrev qj:=inClass (top 39) 1
noncomputable abbrev tE:=inClass (top 39) 2
noncomputable abbrev nZ:=inClass (top 39) 3
noncomputable abbrev qk:=inClass (top 39) 4
noncomputable abbrev mz:=inClass (top 39) 5
noncomputable abbrev ql:=inClass (top 39) 6
noncomputable abbrev rq:=inClass (top 39) 7
noncomputable abbrev oI:=inClass (top 39) 8
noncomputable abbrev rA:=inClass (top 39) 9
noncomputable abbrev nI:=inClass (top 39) 10
noncomputable abbrev oJ:=inClass (top 39) 11
noncomputable abbrev u0:=inClass (top 39) 12
noncomputable abbrev qm:=inClass (top 39) 13
noncomputable abbrev m_:=inClass (top 39) 14
noncomputable abbrev kl:=inClass (top 39) 16
noncomputable abbrev nc:=inClass (top 39) 17
noncomputable abbrev lr:=inClass (top 39) 18
noncomputable abbrev lQ:=inClass (top 39) 19
noncomputable abbrev lR:=inClass (top 39) 20
noncomputable abbrev mj:=inClass (top 39) 21
noncomputable abbrev rB:=inClass (top 39) 22
abbrev n4:=top 41
abbrev rC:=top 42
abbrev rD:=top 43
abbrev oK:=top 44
abbrev rE:=top 45
abbrev oM:=top 46
abbrev mJ:=top 47
abbrev ml:=top 48
abbrev ke:=top 49
abbrev n5:=top 50
abbrev Bl:=top 51
abbrev yj:=nL ["self","name","text","upper_name","lower_name"]
theorem wy:gv yj ["self","name","text","upper_name","lower_name"] (fZ mY):=mW
abbrev wz:=nL ["self","name","file","puts","cuts","other"]
theorem u1:gv wz ["self","name","file","puts","cuts","other"] (fZ ma):=mW
noncomputable abbrev pE:=nL ["patch","names","line","name"]
theorem ko:gv pE ["patch"] (fZ kK):=mW
abbrev nz:=nL ["patch","leant","name"]
theorem kD:gv nz ["patch"] (fZ jS):=mW
noncomputable abbrev zp:=nL ["patches","taken_back","live","patch"]
theorem lb:gv zp ["patches"] (fZ nV):=mW
abbrev DR:=nL ["patches","file","lines","patch"]
theorem qo:gv DR ["patches","file"] (fZ rn):=mW
noncomputable abbrev pF:=nL ["patches","file","live","gone","patch","name","line"]
theorem ji:gv pF ["patches","file"] (fZ kL):=mW
abbrev wA:=nL ["lines","straight","line"]
theorem kq:gv wA ["lines"] (fZ me):=mW
noncomputable abbrev Jt:=nL ["names","ahead","found","name"]
theorem wB:gv Jt ["names","ahead"] (fZ zo):=mW
abbrev xt:=nL ["lines","straight","ahead","line","climb","name","missing","other"]
theorem jF:gv xt ["lines"] (fZ oH):=mW
abbrev B5:=nL ["waiting","name"]
theorem tF:gv B5 ["waiting"] (fZ qh):=mW
abbrev DS:=nL ["lines","ahead","by_name","waiting","line","row","name","other"]
theorem lA:gv DS ["lines","ahead"] (fZ uZ):=mW
abbrev wC:=nL ["self","patches","file"]
theorem u2:gv wC ["self","patches","file"] (fZ mf):=mW
abbrev wD:=nL ["self","first","second"]
theorem u_:gv wD ["self","first","second"] (fZ mi):=mW
abbrev sZ:=nL ["self","pairs","first","second"]
theorem jG:gv sZ ["self"] (fZ kT):=mW
abbrev B6:=nL ["name","sign"]
theorem tG:gv B6 ["name"] (fZ qi):=mW
abbrev zq:=nL ["places","size","least","place"]
theorem lg:gv zq ["places","size"] (fZ nY):=mW
abbrev AE:=nL ["kept_names","size","behind","place"]
theorem n6:gv AE ["kept_names","size"] (fZ o6):=mW
abbrev DT:=nL ["patch","texts","kept_names","behind","lines","upper_name","place","text"]
theorem jH:gv DT ["patch","texts","kept_names"] (fZ rp):=mW
abbrev mq:=nL ["patch","file","row","texts","kept_names","left","first","second","cuts","line"]
theorem iP:gv mq ["patch","file","row","texts"] (fZ jZ):=mW
abbrev yk:=nL ["self"]
theorem wF:gv yk ["self"] (fZ mZ):=mW
abbrev B7:=nL ["self","store"]
theorem AF:gv B7 ["self","store"] (fZ qj):=mW
abbrev zr:=nL ["self"]
theorem yl:gv zr ["self"] (fZ nZ):=mW
abbrev zt:=nL ["self","store","name"]
theorem xu:gv zt ["self","store"] (fZ qk):=mW
abbrev tH:=nL ["self","store","patch","file","texts","sight","line"]
theorem n9:gv tH ["self","store","patch","file","texts"] (fZ mz):=mW
abbrev zu:=nL ["self","store","patch","file","places","row","place"]
theorem rF:gv zu ["self","store","patch","file","places"] (fZ ql):=mW
abbrev DU:=nL ["self","store","patch","other"]
theorem B8:gv DU ["self","store","patch","other"] (fZ rq):=mW
noncomputable abbrev xv:=nL ["self","store","source","patch","wanted","came","name"]
theorem lS:gv xv ["self","store","source","patch"] (fZ oI):=mW
abbrev DV:=nL ["self","store","patch","name"]
theorem va:gv DV ["self","store","patch"] (fZ rA):=mW
abbrev vb:=nL ["self","patch","name"]
theorem tI:gv vb ["self","patch"] (fZ nI):=mW
abbrev xw:=nL ["self","patch","made","puts","line"]
theorem nJ:gv xw ["self","patch"] (fZ oJ):=mW
abbrev zv:=nL ["self","store","file","line"]
theorem xx:gv zv ["self","store","file"] (fZ qm):=mW
abbrev ym:=nL ["self","store","file"]
theorem wG:gv ym ["self","store","file"] (fZ m_):=mW
abbrev oN:=nL ["self","store","name"]
theorem n_:gv oN ["self","store"] (fZ kl):=mW
abbrev yn:=nL ["self","store","file"]
theorem wH:gv yn ["self","store","file"] (fZ nc):=mW
abbrev uc:=nL ["self","store"]
theorem s_:gv uc ["self","store"] (fZ lr):=mW
abbrev vc:=nL ["self","patch"]
theorem ud:gv vc ["self","patch"] (fZ lQ):=mW
abbrev vd:=nL ["self","store","patch"]
theorem ue:gv vd ["self","store","patch"] (fZ lR):=mW
abbrev wI:=nL ["self","patch","files","name"]
theorem oO:gv wI ["self","patch","files"] (fZ mj):=mW
abbrev DW:=nL ["self","store","patch","needs","name"]
theorem qp:gv DW ["self","store","patch"] (fZ rB):=mW
abbrev zw:=nL ["script","k"]
theorem yo:gv zw ["script","k"] (fZ n4):=mW
abbrev DX:=nL ["cell","k","bound","stir"]
theorem qr:gv DX ["cell","k","bound"] (fZ rC):=mW
abbrev DY:=nL ["cell","k","signs","size","base","far","found","j"]
theorem jo:gv DY ["cell","k"] (fZ rD):=mW
abbrev xy:=nL ["cell","signs","size","j"]
theorem lT:gv xy ["cell"] (fZ oK):=mW
abbrev DZ:=nL ["texts","cell","at","line","more","way","out","turned"]
theorem j8:gv DZ ["texts","cell"] (fZ rE):=mW
noncomputable abbrev xA:=nL ["desk","stores","files","cell","name","backs","store","file","way","more","row","source","names","line"]
theorem jq:gv xA ["desk","stores","files","cell","name","backs"] (fZ oM):=mW
abbrev rG:=nL ["script","first","most","backs","desk","stores","files","store","k","cell"]
theorem jd:gv rG ["script","first","most","backs"] (fZ mJ):=mW
abbrev wJ:=nL ["found","due","name"]
theorem oP:gv wJ ["found","due"] (fZ ml):=mW
abbrev ni:=nL ["told","name","found","put","line"]
theorem ja:gv ni ["told","name"] (fZ ke):=mW
abbrev zx:=nL ["desk","name","count"]
theorem lh:gv zx ["desk","name"] (fZ n5):=mW
noncomputable abbrev Gz:=nL ["script","built","desk","needs","names","name","found","other","far","told","store","has","one"]
theorem kE:gv Gz ["script"] (fZ Bl):=mW
structure Txt(mg:Qqx):Prop where
 jP:mg "len"=none
 nK:mg "range"=none
 QH:mg "max"=none
 ve:mg "isinstance"=none
 wK:mg "list"=none
 QI:mg "str"=none
 zy:mg "reversed"=none
 QJ:mg "sorted"=none
 X0:mg "set"=none
 D1:mg "enumerate"=none
 Lh:mg "ValueError"=none
structure Ad where
 AG:Addr
 AH:FuncData
 B9:Addr
 B_:FuncData
 Ca:Addr
 Cb:FuncData
 Ju:Addr
 Jw:FuncData
 nj:Addr
 qN:FuncData
 mr:Addr
 pG:FuncData
 pH:Addr
 pI:FuncData
 nA:Addr
 nB:FuncData
 rH:Addr
 rJ:FuncData
 xB:Addr
 xC:FuncData
 pJ:Addr
 pK:FuncData
 uf:Addr
 ug:FuncData
 pL:Addr
 pM:FuncData
 D2:Addr
 D3:FuncData
 xD:Addr
 xE:FuncData
 vg:Addr
 vj:FuncData
 D5:Addr
 D6:FuncData
 mv:Addr
 pN:FuncData
 pO:Addr
 pP:FuncData
 nE:Addr
 nF:FuncData
 vk:Addr
 vp:FuncData
 rK:Addr
 rL:FuncData
 tJ:Addr
 tK:FuncData
 xF:Addr
 xG:FuncData
 pQ:Addr
 pR:FuncData
 nq:Addr
 qO:FuncData
 vq:Addr
 vt:FuncData
 AI:Addr
 AJ:FuncData
 rM:Addr
 rN:FuncData
 zz:Addr
 zA:FuncData
 tL:Addr
 tM:FuncData
 zB:Addr
 zC:FuncData
 xH:Addr
 xI:FuncData
 xJ:Addr
 xK:FuncData
 xM:Addr
 xN:FuncData
 vw:Addr
 vy:FuncData
 xO:Addr
 xP:FuncData
 Cc:Addr
 Cd:FuncData
 zD:Addr
 zE:FuncData
 qP:Addr
 qQ:FuncData
 oQ:Addr
 oR:FuncData
 qR:Addr
 qS:FuncData
 oa:Addr
 og:FuncData
 oS:Addr
 oT:FuncData
 oU:Addr
 oV:FuncData
 pS:Addr
 pT:FuncData
 xQ:Addr
 xR:FuncData
 rO:Addr
 rP:FuncData
 xS:Addr
 xT:FuncData
 xU:Addr
 xV:FuncData
 xW:Addr
 xX:FuncData
 xY:Addr
 xZ:FuncData
 x5:Addr
 x8:FuncData
 x9:Addr
 x_:FuncData
 pU:Addr
 pV:FuncData
 qT:Addr
 qU:FuncData
 rQ:Addr
 rR:FuncData
 g_:Addr
 gz:Addr
 ib:Addr
 gj:Addr
 jr:Addr
 jj:Addr
 i6:Addr
 iL:Addr
 gk:Addr
 lU:Addr
 j4:Addr
 qt:Addr
 oW:Addr
 nM:Tok
 lV:Tok
 z:Unit
structure Ok(K:Qqy)(mg:Qqx)(A:Ad):Prop where
 rS:DF K mg "counts_with" o5 A.AG A.AH ["text","new","below"]
 uh:DF K mg "most_pairs" qf A.B9 A.B_ ["old","new"]
 ui:DF K mg "place_from" qg A.Ca A.Cb ["texts","text","start"]
 kept:DF K mg "kept" Fx A.Ju A.Jw ["old","new"]
 tN:DM K A.g_ "__init__" "Line.__init__" mY A.nj A.qN ["self","name","text","upper_name","lower_name"]
 lW:DM K A.gz "__init__" "Patch.__init__" ma A.mr A.pG ["self","name","file","puts","cuts","other"]
 rV:DF K mg "lines_named_by" kK A.pH A.pI ["patch"]
 oX:DF K mg "leans_straight_on" jS A.nA A.nB ["patch"]
 vz:DF K mg "live_patches" nV A.rH A.rJ ["patches"]
 wL:DF K mg "lines_put" rn A.xB A.xC ["patches","file"]
 rW:DF K mg "standing_lines" kL A.pJ A.pK ["patches","file"]
 Ho:DF K mg "files_with_lines" nX A.uf A.ug ["patches"]
 rX:DF K mg "straight_ahead" me A.pL A.pM ["lines"]
 joined:DF K mg "joined" zo A.D2 A.D3 ["names","ahead"]
 Bm:DF K mg "all_ahead" oH A.xD A.xE ["lines"]
 zF:DF K mg "first_free" qh A.vg A.vj ["waiting"]
 Jx:DF K mg "row_of" uZ A.D5 A.D6 ["lines","ahead"]
 rY:DM K A.ib "__init__" "Sight.__init__" mf A.mv A.pN ["self","patches","file"]
 rZ:DM K A.ib "is_ahead" "Sight.is_ahead" mi A.pO A.pP ["self","first","second"]
 jI:DM K A.ib "quarrelling" "Sight.quarrelling" kT A.nE A.nF ["self"]
 uj:DF K mg "check_name" qi A.vk A.vp ["name"]
 vA:DF K mg "check_places" nY A.rK A.rL ["places","size"]
 ya:DF K mg "kept_behind" o6 A.tJ A.tK ["kept_names","size"]
 Bn:DF K mg "new_lines" rp A.xF A.xG ["patch","texts","kept_names"]
 r9:DF K mg "changing_patch" jZ A.pQ A.pR ["patch","file","row","texts"]
 tO:DM K A.gj "__init__" "Desk.__init__" mZ A.nq A.qO ["self"]
 zG:DM K A.gj "begin" "Desk.begin" qj A.vq A.vt ["self","store"]
 Mm:DM K A.gj "stores" "Desk.stores" tE A.AI A.AJ ["self"]
 qu:DM K A.gj "patches" "Desk.patches" nZ A.rM A.rN ["self"]
 lX:DM K A.gj "has" "Desk.has" qk A.zz A.zA ["self","store"]
 yb:DM K A.gj "record" "Desk.record" mz A.tL A.tM ["self","store","patch","file","texts"]
 D7:DM K A.gj "cut" "Desk.cut" ql A.zB A.zC ["self","store","patch","file","places"]
 Bo:DM K A.gj "back" "Desk.back" rq A.xH A.xI ["self","store","patch","other"]
 Bp:DM K A.gj "take" "Desk.take" oI A.xJ A.xK ["self","store","source","patch"]
 Bq:DM K A.gj "drop" "Desk.drop" rA A.xM A.xN ["self","store","patch"]
 mw:DM K A.gj "leans" "Desk.leans" nI A.vw A.vy ["self","patch"]
 sN:DM K A.gj "told" "Desk.told" oJ A.xO A.xP ["self","patch"]
 NU:DM K A.gj "files" "Desk.files" u0 A.Cc A.Cd ["self","store"]
 D8:DM K A.gj "row" "Desk.row" qm A.zD A.zE ["self","store","file"]
 tP:DM K A.gj "quarrels" "Desk.quarrels" m_ A.qP A.qQ ["self","store","file"]
 qV:DM K A.gj "patches_of" "Desk.patches_of" kl A.oQ A.oR ["self","store"]
 kZ:DM K A.gj "sight_of" "Desk.sight_of" nc A.qR A.qS ["self","store","file"]
 iU:DM K A.gj "check_store" "Desk.check_store" lr A.oa A.og ["self","store"]
 nr:DM K A.gj "check_made" "Desk.check_made" lQ A.oS A.oT ["self","patch"]
 lj:DM K A.gj "check_held" "Desk.check_held" lR A.oU A.oV ["self","store","patch"]
 lY:DM K A.gj "check_new" "Desk.check_new" mj A.pS A.pT ["self","patch","files"]
 sO:DM K A.gj "keep" "Desk.keep" rB A.xQ A.xR ["self","store","patch"]
 jJ:DF K mg "_law_cell_at" n4 A.rO A.rP ["script","k"]
 Br:DF K mg "_law_draw" rC A.xS A.xT ["cell","k","bound"]
 sP:DF K mg "_law_name" rD A.xU A.xV ["cell","k"]
 wM:DF K mg "_law_text" oK A.xW A.xX ["cell"]
 Bs:DF K mg "_law_edit" rE A.xY A.xZ ["texts","cell"]
 Bt:DF K mg "_law_deed" oM A.x5 A.x8 ["desk","stores","files","cell","name","backs"]
 Bu:DF K mg "_law_desk" mJ A.x9 A.x_ ["script","first","most","backs"]
 oh:DF K mg "_law_names_are" ml A.pU A.pV ["found","due"]
 tQ:DF K mg "_law_straight" ke A.qT A.qU ["told","name"]
 vB:DF K mg "_law_refused" n5 A.rQ A.rR ["desk","name"]
 iG:Dh K A.g_
 NV:Mk K A.g_ A.nj
 NW:mg "Line"=some (.ref A.g_)
 hE:jV K A.g_ "name"
 js:jV K A.g_ "text"
 iz:jV K A.g_ "upper_name"
 iA:jV K A.g_ "lower_name"
 iZ:Dh K A.gz
 Ce:Mk K A.gz A.mr
 Cf:mg "Patch"=some (.ref A.gz)
 iY:jV K A.gz "name"
 jM:jV K A.gz "file"
 jv:jV K A.gz "puts"
 jw:jV K A.gz "cuts"
 iR:jV K A.gz "other"
 j9:Dh K A.ib
 Li:Mk K A.ib A.mv
 Lj:mg "Sight"=some (.ref A.ib)
 jA:jV K A.ib "ahead"
 iq:jV K A.ib "lines"
 gw:Dh K A.gj
 NX:Mk K A.gj A.nq
 NY:mg "Desk"=some (.ref A.gj)
 iM:jV K A.gj "made"
 je:jV K A.gj "needs"
 iB:jV K A.gj "held"
 Lk:Exc K mg "PatchError" A.jr
 Bv:Exc K mg "BadName" A.jj
 yc:Exc K mg "NameTaken" A.i6
 Hq:Exc K mg "NoStore" A.iL
 sQ:Exc K mg "NoPatch" A.gk
 Jy:Exc K mg "NoLine" A.lU
 D9:Exc K mg "Unsettled" A.j4
 Jz:Exc K mg "Same" A.qt
 Ll:Exc K mg "Leant" A.oW
 Cg:mg "NAME_SIGNS"=some (.str (Str.ofString "abcdefghijklmnopqrstuvwxyz0123456789") A.nM)
 r_:mg "LONGEST_NAME"=some (.int 12 A.lV)
 Pw:UT K A.gk
 jK:W.kitOne K (.ref A.gk) (.ref A.jr)=some true
 kr:W.kitOne K (.ref A.gk) (.ref A.jj)=some false
 jT:W.kitOne K (.ref A.gk) (.ref A.i6)=some false
 ku:W.kitOne K (.ref A.gk) (.ref A.iL)=some false
 ky:W.kitOne K (.ref A.gk) (.ref A.gk)=some true
 kO:W.kitOne K (.ref A.gk) (.ref A.lU)=some false
 jU:W.kitOne K (.ref A.gk) (.ref A.j4)=some false
 lZ:W.kitOne K (.ref A.gk) (.ref A.qt)=some false
 ll:W.kitOne K (.ref A.gk) (.ref A.oW)=some false
 D_:W.kitOne K (.ref A.gk) (.type "ValueError")=some true
 sR:Fl K A.gk A.jr=true
 mx:Fl K A.gk A.gk=true
 z:True
end
open PySem L2 PM
noncomputable def nk(n:Nm):List Key:=[Sum.inr n.1,Sum.inl (n.2:Int)]
theorem o7{a b:Nm}(h:nk a=nk b):a=b:=by
 unfold nk at h
 injection h with h1 h2
 injection h2 with h2 _
 exact Prod.ext (ab7 h1) (by have:=Sum.inl.inj h2;omega)
noncomputable abbrev nT(n:Nm):HO:=.tup ((nk n).map kV)
def kP(H:Hp)(v:V)(n:Nm):Prop:=∃t,v=.ref t∧H t=some (nT n)
def Ea(H:Hp)(v:V):Option Nm→Prop
 | none=>v=.jn
 | some n=>kP H v n
def Px(v:V):Option Str→Prop
 | none=>v=.jn
 | some x=>v=.str x
noncomputable def Lm(a b c d:V):List (Str×V):=[("name",a),("text",b),("upper_name",c),("lower_name",d)]
theorem i0{a b c d:V}:(Lm a b c d).lookup ("name":Str)=some a:=by kernel_rfl
theorem vC{a b c d:V}:(Lm a b c d).lookup ("text":Str)=some b:=by kernel_rfl
theorem Ci{a b c d:V}:(Lm a b c d).lookup ("upper_name":Str)=some c:=by kernel_rfl
theorem Cj{a b c d:V}:(Lm a b c d).lookup ("lower_name":Str)=some d:=by kernel_rfl
noncomputable def Lo(a b c d e:V):List (Str×V):=[("name",a),("file",b),("puts",c),("cuts",d),("other",e)]
theorem sd{a b c d e:V}:(Lo a b c d e).lookup ("name":Str)=some a:=by kernel_rfl
theorem Eb{a b c d e:V}:(Lo a b c d e).lookup ("file":Str)=some b:=by kernel_rfl
theorem zH{a b c d e:V}:(Lo a b c d e).lookup ("puts":Str)=some c:=by kernel_rfl
theorem zI{a b c d e:V}:(Lo a b c d e).lookup ("cuts":Str)=some d:=by kernel_rfl
theorem pW{a b c d e:V}:(Lo a b c d e).lookup ("other":Str)=some e:=by kernel_rfl
def nu(A:Ad)(H:Hp)(a:Addr)(l:Ln):Prop:=∃dx vn vu vl,H a=some (.ins A.g_ dx (Lm vn (.str l.tx) vu vl))∧kP H vn l.nm∧Ea H vu l.up∧Ea H vl l.lo
def qv(A:Ad)(H:Hp)(a:Addr)(ls:List Ln):Prop:=∃as:List Addr,H a=some (.lst (as.map V.ref))∧Paired (nu A H) as ls
def zJ(H:Hp)(a:Addr)(ns:List Nm):Prop:=∃vs,H a=some (.lst vs)∧Paired (kP H) vs ns
def ou(A:Ad)(H:Hp)(a:Addr)(p:Pt):Prop:=∃dx vf pu cu vo,H a=some (.ins A.gz dx (Lo (.str p.nm) vf (.ref pu) (.ref cu) vo))∧Px vf p.file∧qv A H pu p.ig∧zJ H cu p.i4∧Px vo p.other
def yp(A:Ad)(H:Hp)(a:Addr)(ps:List Pt):Prop:=∃as:List Addr,H a=some (.lst (as.map V.ref))∧Paired (ou A H) as ps
section
variable{A:Ad}{H H':Hp}{a:Addr}
theorem kP.same{v:V}{n:Nm}(x:kP H v n)(s:gg H H'):kP H' v n:=by obtain⟨t,e,h⟩:=x;exact⟨t,e,s _ _ h⟩
theorem Ea.same{v:V}{o:Option Nm}(x:Ea H v o)(s:gg H H'):Ea H' v o:=by
 cases o with
 | none=>exact x
 | some n=>exact kP.same x s
theorem nu.same{l:Ln}(x:nu A H a l)(s:gg H H'):nu A H' a l:=by
 obtain⟨dx,vn,vu,vl,h,h1,h2,h3⟩:=x
 exact⟨dx,vn,vu,vl,s _ _ h,h1.same s,h2.same s,h3.same s⟩
theorem qv.same{ls:List Ln}(x:qv A H a ls)(s:gg H H'):qv A H' a ls:=by
 obtain⟨as,h,p⟩:=x
 exact⟨as,s _ _ h,Paired.kS p fun _ _ z=>z.same s⟩
theorem zJ.same{ns:List Nm}(x:zJ H a ns)(s:gg H H'):zJ H' a ns:=by
 obtain⟨vs,h,p⟩:=x
 exact⟨vs,s _ _ h,Paired.kS p fun _ _ z=>z.same s⟩
theorem ou.same{p:Pt}(x:ou A H a p)(s:gg H H'):ou A H' a p:=by
 obtain⟨dx,vf,pu,cu,vo,h,h1,h2,h3,h4⟩:=x
 exact⟨dx,vf,pu,cu,vo,s _ _ h,h1,h2.same s,h3.same s,h4⟩
theorem yp.same{ps:List Pt}(x:yp A H a ps)(s:gg H H'):yp A H' a ps:=by
 obtain⟨as,h,p⟩:=x
 exact⟨as,s _ _ h,Paired.kS p fun _ _ z=>z.same s⟩
end
theorem ir{α β:Type}{F:α→β→Prop}{xs:List α}{ys:List β}(p:Paired F xs ys):∀{i:Nat} {x:α},xs[i]?=some x→∃y,ys[i]?=some y∧F x y:=by
 induction p with
 | nil=>intro i x h;simp at h
 | cons f t ih=>
  intro i x h
  cases i with
  | zero=>simp at h;subst h;exact⟨_,rfl,f⟩
  | succ i=>simpa using ih (by simpa using h)
theorem mK{α β:Type}{F:α→β→Prop}{xs:List α}{ys:List β}(p:Paired F xs ys):∀{i:Nat} {y:β},ys[i]?=some y→∃x,xs[i]?=some x∧F x y:=by
 induction p with
 | nil=>intro i x h;simp at h
 | cons f t ih=>
  intro i x h
  cases i with
  | zero=>simp at h;subst h;exact⟨_,rfl,f⟩
  | succ i=>simpa using ih (by simpa using h)
theorem uk{α β:Type}{F:α→β→Prop}{xs zs:List α}{ys ws:List β}(p:Paired F xs ys)(q:Paired F zs ws):Paired F (xs++zs) (ys++ws):=by
 induction p with
 | nil=>exact q
 | cons f t ih=>exact .cons f ih
theorem iD{α β:Type}{F:α→β→Prop}{xs:List α}{ys:List β}{x:α}{y:β}(p:Paired F xs ys)(h:F x y):Paired F (xs++[x]) (ys++[y]):=uk p (.cons h .nil)
theorem zK{α β:Type}{F:α→β→Prop}{xs:List α}{ys:List β}(p:Paired F xs ys):Paired F xs.reverse ys.reverse:=by
 induction p with
 | nil=>exact .nil
 | cons f t ih=>rw[List.reverse_cons,List.reverse_cons];exact iD ih f
theorem j_{as:List Addr}{i:Nat}{v:V}(h:(as.map V.ref)[i]?=some v):∃b,as[i]?=some b∧v=.ref b:=by
 rw[aak] at h
 obtain⟨b,e,rfl⟩:=aaF.mp h
 exact⟨b,e,rfl⟩
theorem Px.eq{v:V}{o:Option Str}(h:Px v o)(f:Str):decide (v=.str f)=decide (o=some f):=by
 cases o with
 | none=>rw[show v=.jn from h,aah (fun z=>by cases z),aah (fun z=>by cases z)]
 | some x=>
  rw[show v=.str x from h]
  by_cases e:x=f
  ·subst e;rw[XU rfl,XU rfl]
  ·rw[aah (fun z=>e (V.str.inj z)),aah (fun z=>e (aaD z))]
theorem Mn{α:Type}{xs:List α}{x:α}{i:Nat}(h:xs.length≤i:=by assumption):(xs++[x]).length≤i+1:=by rw[UZ];exact Nat.succ_le_succ h
def wN(n:Nat):Prop:=n≤4000
theorem wN.sz{n:Nat}(h:wN n):n≤sizeLine:=aad h (by decide)
section
variable{P:Program}{w:World}{K:Qqy}{mg:Qqx}{base:Heap}{A:Ad}
def NZ(A:Ad):Sp:=fun vs H Q _=>∃(a:Addr)(ps:List Pt),vs=[.ref a]∧yp A H a ps∧wN ps.length∧∀p H',gg H H'→H p=none→yp A H' p (live ps)→Q (.ref p) H'
def Tb(kvs:List (Key×V))(t:List Str):Prop:=∀x,(iO kvs (Sum.inr x)).isSome=decide (x∈t)
theorem Tb.put{kvs:List (Key×V)}{t:List Str}(h:Tb kvs t)(y:Str)(v:V):Tb (putK kvs (Sum.inr y) v) (y::t):=fun x=>by
 rw[jY]
 by_cases e:x=y
 ·subst e;rw[aas rfl,XU aav];rfl
 ·rw[aan (fun z=>e (ab7 z)),h x]
  by_cases m:x∈t
  ·rw[XU m,XU (aal _ m)]
  ·rw[aah m,aah (fun z=>(XW.mp z).elim e m)]
theorem Fy(p:Pt)(r:List Pt)(t:List Str):qL (p::r) t=if p.nm∈t then qL r t else p::qL r (match p.other with|some o=>o::t|none=>t):=rfl
theorem yq(T:Txt mg)(O:Ok K mg A):ik P w K mg base mT 1 A.rH A.rJ ["patches"] (NZ A):=by
 refine O.vz.f.q0 lb fun jx A0 outer s H vs Q E hr h=>?_
 obtain⟨a,ps,rfl,⟨as,ha,pa⟩,jQ,q⟩:=h
 have hlen:=aao pa
 refine⟨_,(de (kX 1 lb lI)
   (de (kX 2 lb (i8 e_))
   (de (iC aar rfl (K4 rfl T.zy (a_ (pv 0) e_)) (rm 3 lb) (fO (iE (i7 (kG (by exact iI hr) (gq (pv 3) rfl) (pv 1))) (de (hG (oA aaJ aaQ aaR jW (pv 2) (a_ (pv 3) e_)))
   (fO (iE (i7 (oy (gq (pv 3) rfl))) (fO (jc (by exact iI hr) (pv 1) (gq (pv 3) rfl) lD rfl)) ia))) ia)))
   (fO (h_ (Fm rfl (by rfl) T.wK (by rfl) T.zy (a_ (pv 2) e_))))))),?_⟩
 refine K3 ?_;intro _ _ _
 intro t ht
 have s1:gg H (upd H t (.dK [])):=(gg.refl H).new ht
 refine⟨L2.jQ,fun l hl=>?_⟩
 have s2:gg H (upd (upd H t (.dK [])) l (.lst [])):=s1.new hl
 have J9:t≠l:=fun z=>by rw[z] at hl;rw[b_] at hl;cases hl
 refine⟨_,rfl,a,_,rfl,hV.of (s2 a _ ha),K5 (K:=K) (a:=a) (xs:=as.map V.ref) (fun i σ H2=>∃(v:Option V)(kvs:List (Key×V))(tb:List Str)(ls:List Addr)(lp:List Pt),σ=[rr a,rr t,rr l,v]∧gg H H2∧H2 t=some (.dK kvs)∧Tb kvs tb∧kvs.length≤i∧H2 l=some (.lst (ls.map V.ref))∧ls.length≤i∧Paired (ou A H) ls lp∧lp++qL (ps.reverse.drop i) tb=qL ps.reverse [])
  ⟨none,[],[],[],[],rfl,s2,by rw[d_ J9];exact b_,(fun x=>rfl),U0 _,b_,U0 _,.nil,rfl⟩ (by rintro _ _ _ _ ⟨_,_,_,_,_,_,s3,_⟩;exact hV.of (s3 a _ ha)) ?_ ?_⟩
 ·rintro i v σ H2 hx ⟨v0,kvs,tb,ls,lp,rfl,s3,h1,h2,h3,h4,h5,h6,h7⟩
  rw[←List.map_reverse] at hx
  obtain⟨b,hb,rfl⟩:=j_ hx
  obtain⟨p,hp,dx,vf,pu,cu,vo,g1,g2,g3,g4,g5⟩:=ir (zK pa) hb
  have hi:i<ps.reverse.length:=(RO.mp hp).1
  have AW:i<4000:=by rw[abj] at hi;exact aaE hi jQ
  have hd:ps.reverse.drop i=p::ps.reverse.drop (i+1):=by rw[aaT hi];congr 1;exact(RO.mp hp).2
  rw[hd] at h7
  refine⟨_,rfl,b,A.gz,dx,_,_,rfl,s3 _ _ g1,O.iZ,O.iY,sd,_,rfl,t,_,rfl,iT.k (k:=Sum.inr p.nm) h1,_,rfl,?_⟩
  rw[h2 p.nm]
  rw[Fy] at h7
  by_cases hm:p.nm∈tb
  ·rw[aas hm] at h7
   rw[XU hm]
   exact kA ⟨_,kvs,tb,ls,lp,rfl,s3,h1,h2,by omega,h4,by omega,h6,h7⟩
  ·rw[aan hm] at h7
   rw[aah hm]
   refine mG ?_
   refine⟨_,rfl,.inl ⟨rfl,_,hV.of h4⟩,_,rfl,l,_,_,rfl,rfl,h4,by rw[RK];exact abn h5 (Nat.lt_trans AW (by decide)),?_⟩
   have VO:H l=none:=s1.free hl
   have s4:gg H (upd H2 l (.lst (ls.map V.ref++[V.ref b]))):=s3.upd VO
   have LR:upd H2 l (.lst (ls.map V.ref++[V.ref b])) t=some (.dK kvs):=by rw[d_ J9];exact h1
   have e4:upd H2 l (.lst (ls.map V.ref++[V.ref b])) l=some (.lst ((ls++[b]).map V.ref)):=by rw[b_,aau];rfl
   have pp:Paired (ou A H) (ls++[b]) (lp++[p]):=iD h6 ⟨dx,vf,pu,cu,vo,g1,g2,g3,g4,g5⟩
   have YC:(ls++[b]).length≤i+1:=Mn
   refine⟨_,rfl,b,A.gz,dx,_,_,rfl,s4 _ _ g1,O.iZ,O.iR,pW,_,rfl,?_⟩
   cases ho:p.other with
   | none=>
    rw[ho] at g5 h7
    rw[show vo=V.jn from g5]
    exact⟨_,kvs,tb,_,_,rfl,s4,LR,h2,by omega,e4,YC,pp,by rw[aaS];exact h7⟩
   | some x=>
    rw[ho] at g5 h7
    rw[show vo=V.str x from g5] at g1 ⊢
    refine⟨_,rfl,_,rfl,b,A.gz,dx,_,_,rfl,s4 _ _ g1,O.iZ,O.iR,pW,t,_,rfl,l9.k (k:=Sum.inr x) LR (abn h3 (Nat.lt_trans AW (by decide))),?_⟩
    have YD:=ju kvs (Sum.inr x:Key) (V.bl true)
    have htH:H t=none:=ht
    exact⟨_,_,x::tb,_,_,rfl,s4.upd htH,b_,h2.put x _,by omega,by rw[d_ J9.symm];exact e4,YC,pp,by rw[aaS];exact h7⟩
 ·rintro σ H2 ⟨v0,kvs,tb,ls,lp,rfl,s3,h1,h2,h3,h4,h5,h6,h7⟩
  rw[RK] at h3 h5 h7
  rw[hlen,←abj,acj] at h7
  have h7:lp=qL ps.reverse []:=by rw[show qL [] tb=[] from rfl,aaN] at h7;exact h7
  refine⟨_,rfl,l,_,rfl,hV.of h4,fun p hp=>?_⟩
  have s4:=s3.new (o:=.lst (ls.map V.ref).reverse) hp
  refine q p _ s4 (s3.free hp) ⟨ls.reverse,by rw[b_,List.map_reverse],?_⟩
  unfold live
  rw[←h7]
  exact Paired.kS (zK h6) fun _ _ z=>z.same s4
theorem se{α β:Type}{f:α→List β}{ps qs:List α}(h:ps.Sublist qs):(ps.flatMap f).Sublist (qs.flatMap f):=by
 induction h with
 | slnil=>exact aaG _
 | cons x _ ih=>rw[aaA];exact ih.trans (aa4 _ _)
 | cons_cons x _ ih=>rw[aaA,aaA];exact(aaG _).append ih
structure Small(ps:List Pt):Prop where
 many:wN ps.length
 ig:wN (ps.flatMap (·.ig)).length
 i4:wN (ps.flatMap (·.i4)).length
theorem Small.sub{ps qs:List Pt}(h:ps.Sublist qs)(s:Small qs):Small ps:=⟨aad h.length_le s.many,aad (se h).length_le s.ig,aad (se h).length_le s.i4⟩
theorem qw(ps:List Pt)(f:Str):(hU ps f).length≤(ps.flatMap (·.ig)).length:=(se aaV).length_le
theorem AK(ps:List Pt)(p:Pt)(f:Str):hU (ps++[p]) f=hU ps f++if p.file=some f then p.ig else[]:=by
 unfold hU
 rw[aaM,aa1]
 by_cases h:p.file=some f
 ·rw[aas h,XZ (by simpa using h),aaU,aaA,abr,aaN]
 ·rw[aan h,aaj (by simpa using h),aaU,abr]
theorem take_snoc{α:Type}{xs:List α}{i:Nat}{x:α}(h:xs[i]?=some x):xs.take (i+1)=xs.take i++[x]:=by rw[List.take_add_one,h];rfl
def Py(kvs:List (List Key×V))(ns:List Nm):Prop:=∀n,(iO kvs (nk n)).isSome=decide (n∈ns)
theorem Py.put{kvs:List (List Key×V)}{ns:List Nm}(h:Py kvs ns)(y:Nm)(v:V):Py (putK kvs (nk y) v) (ns++[y]):=fun x=>by
 rw[jY]
 by_cases e:x=y
 ·subst e;rw[aas rfl,XU (by simp)];rfl
 ·rw[aan (fun z=>e (o7 z)),h x]
  by_cases m:x∈ns
  ·rw[XU m,XU (aat _ m)]
  ·rw[aah m,aah (fun z=>(XX.mp z).elim m fun z=>e (US.mp z))]
def QK(A:Ad):Sp:=fun vs H Q _=>∃(a:Addr)(ps:List Pt)(f:Str),vs=[.ref a,.str f]∧yp A H a ps∧Small ps∧∀p H',gg H H'→H p=none→qv A H' p (hU ps f)→Q (.ref p) H'
theorem vD(T:Txt mg)(O:Ok K mg A):ik P w K mg base mT 1 A.xB A.xC ["patches","file"] (QK A):=by
 refine O.wL.f.q0 qo fun jx A0 outer s H vs Q E hr h=>?_
 obtain⟨a,ps,f,rfl,⟨as,ha,pa⟩,sm,q⟩:=h
 have hlen:=aao pa
 refine⟨_,(de (kX 2 qo (i8 e_))
   (de (iC aar rfl (ie (pv 0)) (rm 3 qo) (fO (iE (ip mD (gq (pv 3) rfl) (pv 1) (iN _)) (fO (hG (oA aaJ PySem.F.slot_list_extend PySem.F.type_list_extend A7 (pv 2) (a_ (gq (pv 3) rfl) e_)))) ia)))
   (fO (h_ (pv 2))))),?_⟩
 refine EK ?_;intro _ _
 refine⟨L2.jQ,fun l hl=>?_⟩
 have s1:gg H (upd H l (.lst [])):=(gg.refl H).new hl
 dsimp only [l6];refine IV ?_;intro _
 let Jv:=fun(i:Nat) (σ:St) (H2:Hp)=>∃(v:Option V)(ls:List Addr),σ=[rr a,rs f,rr l,v]∧gg H H2∧H2 l=some (.lst (ls.map V.ref))∧Paired (nu A H) ls (hU (ps.take i) f)
 refine⟨_,rfl,a,rfl,⟨_,hV.of (s1 a _ ha)⟩,iQ (K:=K) (a:=a) (xs:=as.map V.ref) Jv
  ⟨none,[],rfl,s1,b_,.nil⟩ (by rintro _ _ _ _ ⟨_,_,_,s3,_⟩;exact hV.of (s3 a _ ha)) ?_ ?_⟩
 ·rintro i v σ H2 hx ⟨v0,ls,rfl,s3,h4,h6⟩
  obtain⟨b,hb,rfl⟩:=j_ hx
  obtain⟨p,hp,dx,vf,pu,cu,vo,g1,g2,⟨as2,g3,RP⟩,g4,g5⟩:=ir pa hb
  have e:hU (ps.take (i+1)) f=hU (ps.take i) f++if p.file=some f then p.ig else[]:=by rw[take_snoc hp,AK]
  refine⟨_,rfl,b,A.gz,dx,_,_,rfl,s3 _ _ g1,O.iZ,O.jM,Eb,_,rfl,?_⟩
  have hf:M9 vf (V.str f)=true:=by
   cases hq:p.file with
   | none=>rw[hq] at g2;rw[show vf=V.jn from g2];rfl
   | some x=>rw[hq] at g2;rw[show vf=V.str x from g2];rfl
  refine⟨hf,_,rfl,?_⟩
  rw[g2.eq f]
  by_cases hm:p.file=some f
  ·rw[aas hm] at e
   rw[XU hm]
   refine mG ?_
   refine⟨_,rfl,.inl ⟨rfl,_,hV.of h4⟩,_,rfl,b,A.gz,dx,_,_,rfl,s3 _ _ g1,O.iZ,O.jv,zH,l,pu,_,_,rfl,rfl,h4,s3 _ _ g3,?_,?_⟩
   ·rw[RK,RK,aao h6,aao RP,←UZ,←e]
    exact aad (qw _ f) (Small.sub (ace _ _) sm).ig.sz
   ·refine⟨_,ls++as2,rfl,s3.upd hl,by rw[b_,aau],?_⟩
    rw[e]
    exact uk h6 RP
  ·rw[aan hm,aaN] at e
   rw[aah hm]
   exact kA ⟨_,ls,rfl,s3,h4,by rw[e];exact h6⟩
 ·rintro σ H2 ⟨v0,ls,rfl,s3,h4,h6⟩
  rw[RK,hlen,aaf] at h6
  exact⟨_,rfl,q l _ s3 hl ⟨ls,h4,Paired.kS h6 fun _ _ z=>z.same s3⟩⟩
theorem Hr(ps:List Pt)(p:Pt):gone (ps++[p])=gone ps++p.i4:=by
 unfold gone
 rw[aa1,aaA,abr,aaN]
def Lp(A:Ad):Sp:=fun vs H Q _=>∃(a:Addr)(ps:List Pt)(f:Str),vs=[.ref a,.str f]∧yp A H a ps∧Small ps∧∀p H',gg H H'→H p=none→qv A H' p (nU ps f)→Q (.ref p) H'
theorem vE(T:Txt mg)(O:Ok K mg A):ik P w K mg base mT 2 A.pJ A.pK ["patches","file"] (Lp A):=by
 have z8:=@yq P w K mg base A T O
 have sy:=@vD P w K mg base A T O
 refine O.rW.f.q0 ji fun jx A0 outer s H vs Q E hr h=>?_
 obtain⟨a,ps,f,rfl,pa,sm,q⟩:=h
 refine⟨_,(de (kX 2 ji (rl O.vz z8 hr (a_ (pv 0) e_)))
   (de (lE (i:=3) ji.nd rfl (Or.inr rfl) mF)
   (de (iC aar rfl (ie (pv 2)) (rm 4 ji) (fO (iC aar rfl (ie (gq (pv 4) rfl)) (rm 5 ji) (fO (jc (by exact iI hr) (pv 3) (pv 5) lD rfl)))))
   (fO (h_ (p3 pF (fZ kL).names [6] rfl (ie (rl O.wL sy hr (a_ (pv 2) (a_ (pv 1) e_)))) rfl (by decide+kernel) (fun _ _ _ _=>(iy (i:=6) ji.nd rfl (Or.inl rfl))) (fun _ _ _ _=>⟨_,l_ (i7 (kG (by exact iI hr) (gq (pv 6) rfl) (pv 3))),by(try simp only [j6]);rfl⟩) (fun _ _ _ _=>yG (pv 6)))))))),?_⟩
 refine K3 ?_;intro _ _ _
 refine⟨_,rfl,a,ps,rfl,pa,sm.many,fun l H1 s1 PR MC=>?_⟩
 have VP:Small (live ps):=sm.sub (DN ps)
 obtain⟨as,ha,pl⟩:=id MC
 have hlen:=aao pl
 intro g hg
 have s2:gg H1 (upd H1 g (.dT [])):=(gg.refl H1).new hg
 dsimp only [l6];refine IV ?_;intro _
 let Jv:=fun(i:Nat) (σ:St) (H2:Hp)=>∃(v4 v5:Option V)(kvs:List (List Key×V)),σ=[rr a,rs f,rr l,rr g,v4,v5,none]∧gg H1 H2∧H2 g=some (.dT kvs)∧Py kvs (gone ((live ps).take i))∧kvs.length≤(gone ((live ps).take i)).length
 refine⟨_,rfl,l,rfl,⟨_,hV.of (s2 l _ ha)⟩,iQ (K:=K) (a:=l) (xs:=as.map V.ref) Jv
  ⟨none,none,[],rfl,s2,b_,(fun x=>rfl),U0 _⟩ (by rintro _ _ _ _ ⟨_,_,_,_,s3,_⟩;exact hV.of (s3 l _ ha)) ?_ ?_⟩
 ·rintro i v σ H2 hx ⟨v4,v5,kvs,rfl,s3,h1,h2,h3⟩
  obtain⟨b,hb,rfl⟩:=j_ hx
  obtain⟨p,hp,dx,vf,pu,cu,vo,g1,g2,g3,⟨cs,g4,PU⟩,g5⟩:=ir pl hb
  have e:gone ((live ps).take (i+1))=gone ((live ps).take i)++p.i4:=by rw[take_snoc hp,Hr]
  have hsz:(gone ((live ps).take i)++p.i4).length≤4000:=by rw[←e];exact(VP.sub (ace _ _)).i4
  rw[UZ] at hsz
  have EN:=aao PU
  let Jv:=fun(j:Nat) (σ:St) (H3:Hp)=>∃(v5:Option V)(kvs:List (List Key×V)),σ=[rr a,rs f,rr l,rr g,rr b,v5,none]∧gg H1 H3∧H3 g=some (.dT kvs)∧Py kvs (gone ((live ps).take i)++p.i4.take j)∧kvs.length≤(gone ((live ps).take i)).length+j
  refine⟨_,rfl,b,A.gz,dx,_,_,rfl,s3 _ _ g1,O.iZ,O.jw,zI,cu,rfl,⟨_,hV.of (s3 _ _ g4)⟩,iQ (K:=K) (a:=cu) (xs:=cs) Jv
   ⟨v5,kvs,rfl,s3,h1,by rw[abz,aaN];exact h2,by omega⟩ (by rintro _ _ _ _ ⟨_,_,_,s4,_⟩;exact hV.of (s4 cu _ g4)) ?_ ?_⟩
  ·rintro j v σ H3 hx ⟨v5,kvs,rfl,s4,h1,h2,h3⟩
   obtain⟨n,hn,t,rfl,ht⟩:=ir PU hx
   have hj:j<cs.length:=(RO.mp hx).1
   refine⟨_,rfl,_,rfl,g,_,rfl,l9.t (k:=nk n) h1 (s4 _ _ ht) (abn (m:=4000) (by omega) (by decide)),?_⟩
   have YD:=ju kvs (nk n) (V.bl true)
   refine⟨_,_,rfl,s4.upd hg,b_,?_,by omega⟩
   rw[take_snoc hn,←aaS]
   exact h2.put n _
  ·rintro σ H3 ⟨v5,kvs,rfl,s4,h1,h2,h3⟩
   rw[EN,aaf] at h2
   rw[EN] at h3
   exact⟨_,v5,kvs,rfl,s4,h1,by rw[e];exact h2,by rw[e,UZ];exact h3⟩
 ·rintro σ H2 ⟨v4,v5,kvs,rfl,s3,h1,h2,h3⟩
  rw[RK,hlen,aaf] at h2
  refine⟨_,rfl,_,rfl,l,live ps,f,rfl,MC.same s3,VP,fun p H3 s4 sA ⟨VQ,YE,YF⟩=>?_⟩
  have YG:VQ.length=(hU (live ps) f).length:=aao YF
  have hbound:VQ.length≤4000:=by rw[YG];exact aad (qw _ _) VP.ig
  refine⟨p,rfl,⟨_,hV.of YE⟩,jE (K:=K) (a:=p) (xs:=VQ.map V.ref) (by rw[RK];exact aad hbound (by decide)) (fun i ys σ H4=>∃(v6:Option V)(ls:List Addr),σ=[rr a,rs f,rr l,rr g,v4,v5,v6]∧H4=H3∧ys=ls.map V.ref∧ls.length≤i∧Paired (nu A H3) ls (((hU (live ps) f).take i).filter fun l=>l.nm∉gone (live ps)))
   ⟨none,[],rfl,rfl,rfl,U0 _,.nil⟩ (by rintro _ _ _ _ _ ⟨_,ls,_,e,e2,e3,_⟩;subst e e2;exact⟨hV.of YE,by rw[RK];exact e3⟩) ?_ ?_⟩
  ·rintro i v ys σ H4 hx ⟨v6,ls,rfl,rfl,rfl,e3,h6⟩
   obtain⟨b,hb,rfl⟩:=j_ hx
   obtain⟨ln,yv,dx,vn,vu,vl,k1,⟨t,rfl,k2⟩,k3,k4⟩:=ir YF hb
   refine⟨_,rfl,b,A.g_,dx,_,_,rfl,k1,O.iG,O.hE,i0,_,rfl,g,_,rfl,iT.t (k:=nk ln.nm) (s4 _ _ h1) k2,_,rfl,?_⟩
   rw[h2 ln.nm,take_snoc yv,aaM]
   by_cases hm:ln.nm∈gone (live ps)
   ·rw[XU hm]
    refine kA ⟨_,ls,rfl,rfl,rfl,by omega,?_⟩
    rw[aaj (by simpa using hm),aaU,aaN]
    exact h6
   ·rw[aah hm]
    refine mG ⟨_,rfl,_,ls++[b],rfl,rfl,by rw[aau];rfl,Mn,?_⟩
    rw[XZ (by simpa using hm),aaU]
    exact iD h6 ⟨dx,.ref t,vu,vl,k1,⟨t,rfl,k2⟩,k3,k4⟩
  ·rintro ys σ H4 ⟨v6,ls,rfl,rfl,rfl,e3,h6⟩ p2 AA
   rw[RK,YG,aaf] at h6
   have s5:=((s1.trans s3).trans s4).new (o:=.lst (ls.map V.ref)) AA
   refine q p2 _ s5 (((s1.trans s3).trans s4).free AA) ⟨ls,b_,?_⟩
   exact Paired.kS h6 fun _ _ z=>z.same ((gg.refl H4).new AA)
theorem pX{κ:Type}[DecidableEq κ](kvs:List (κ×V))(k:κ)(v:V):(putK kvs k v).map (·.1)=if k∈kvs.map (·.1) then kvs.map (·.1) else kvs.map (·.1)++[k]:=by
 unfold putK
 by_cases h:k∈kvs.map (·.1)
 ·have h':(kvs.any fun kv=>decide (kv.1=k))=true:=by
   obtain⟨p,hp,e⟩:=aaH.mp h
   exact List.any_eq_true.mpr ⟨p,hp,XU e⟩
  rw[aas h',aas h,List.map_map]
  refine ab0 fun p _=>?_
  show(if p.1=k then(p.1,v) else p).1=p.1
  split<;>rfl
 ·have h':¬(kvs.any fun kv=>decide (kv.1=k))=true:=fun z=>by
   obtain⟨p,hp,e⟩:=List.any_eq_true.mp z
   exact h (aaH.mpr ⟨p,hp,aaB e⟩)
  rw[aan h',aan h,aau]
  rfl
theorem sS{κ:Type}[DecidableEq κ]{kvs:List (κ×V)}{k:κ}:(iO kvs k).isSome=true↔k∈kvs.map (·.1):=by
 induction kvs with
 | nil=>exact⟨(fun z=>by cases z),(fun z=>by cases z)⟩
 | cons p r ih=>
  by_cases e:p.1=k
  ·rw[jm e,aaw,e];exact⟨fun _=>aav,fun _=>rfl⟩
  ·rw[jg e,ih,aaw]
   exact⟨fun m=>aal _ m,fun z=>(XW.mp z).elim (fun z=>absurd z.symm e) id⟩
theorem Ec{κ:Type}[DecidableEq κ]{kvs:List (κ×V)}{k:κ}(h:k∉kvs.map (·.1)):iO kvs k=none:=by
 cases e:iO kvs k with
 | none=>rfl
 | some v=>exact absurd (sS.mp (by rw[e];rfl)) h
theorem sh{n:Nm}{l:List Nm}:nk n∈l.map nk↔n∈l:=by
 constructor
 ·intro h
  obtain⟨m,hm,e⟩:=aaH.mp h
  rw[←o7 e];exact hm
 ·exact fun h=>aaa h
def AL(H:Hp)(a:Addr)(l:List Nm):Prop:=∃dk,H a=some (.dT dk)∧dk.map (·.1)=l.map nk
noncomputable def ow(l:List Nm)(m:Nm):List Nm:=if m∈l then l else l++[m]
theorem si{l:List Nm}{m x:Nm}:x∈ow l m↔x∈l∨x=m:=by
 unfold ow
 split
 ·rename_i h
  exact⟨.inl,fun z=>z.elim id fun z=>z▸h⟩
 ·simp
theorem yK{l:List Nm}{m:Nm}(h:l.Nodup):(ow l m).Nodup:=by
 unfold ow
 split
 ·exact h
 ·rename_i hm
  rw[aa2]
  exact⟨h,by simp,fun a ha b hb z=>hm (by rw[US.mp hb] at z;exact z▸ha)⟩
theorem Ed{l:List Nm}{m:Nm}:(ow l m).length≤l.length+1:=by
 unfold ow
 split
 ·omega
 ·rw[UZ];exact U0 _
theorem vF{dk:List (List Key×V)}{l:List Nm}(h:dk.map (·.1)=l.map nk)(m:Nm)(v:V):(putK dk (nk m) v).map (·.1)=(ow l m).map nk:=by
 rw[pX,h]
 unfold ow
 by_cases e:m∈l
 ·rw[aas (sh.mpr e),aas e]
 ·rw[aan (fun z=>e (sh.mp z)),aan e,aau];rfl
noncomputable def zk(ns:List Nm)(ds:List Addr):List (List Key×V):=List.zipWith (fun n d=>(nk n,V.ref d)) ns ds
theorem GA:∀{ns:List Nm} {ds:List Addr} (n:Nm) (d:Addr),ns.length=ds.length→zk (ns++[n]) (ds++[d])=zk ns ds++[(nk n,V.ref d)]
 | [],[],_,_,_=>rfl
 | [],_::_,_,_,h=>by simp at h
 | _::_,[],_,_,h=>by simp at h
 | x::r,y::t,n,d,h=>by
  show(nk x,V.ref y)::zk (r++[n]) (t++[d])=_
  rw[GA n d (by simpa using h)]
  rfl
theorem Ck:∀{ns:List Nm} {ds:List Addr},ns.length=ds.length→(zk ns ds).map (·.1)=ns.map nk
 | [],[],_=>rfl
 | [],_::_,h=>by simp at h
 | _::_,[],h=>by simp at h
 | x::r,y::t,h=>by
  show nk x::(zk r t).map (·.1)=nk x::r.map nk
  rw[Ck (by simpa using h)]
noncomputable def tf:List Nm→List Addr→Nm→Addr
 | x::r,d::t,n=>if x=n then d else tf r t n
 | _,_,_=>0
theorem JA:∀{ns:List Nm} {ds:List Addr} {n:Nm},ns.length=ds.length→n∈ns→iO (zk ns ds) (nk n)=some (.ref (tf ns ds n))
 | [],_,_,_,hn=>by cases hn
 | _::_,[],_,h,_=>by simp at h
 | x::r,y::t,n,h,hn=>by
  show iO ((nk x,V.ref y)::zk r t) (nk n)=some (.ref (if x=n then y else tf r t n))
  by_cases e:x=n
  ·subst e
   rw[jm rfl,aas rfl]
  ·have hr:n∈r:=(XW.mp hn).elim (fun z=>absurd z.symm e) id
   rw[jg (fun z=>e (o7 z)),JA (by simpa using h) hr,aan e]
theorem Cm:∀{ns:List Nm} {ds:List Addr} {n:Nm},ns.length=ds.length→n∈ns→tf ns ds n∈ds
 | [],_,_,_,hn=>by cases hn
 | _::_,[],_,h,_=>by simp at h
 | x::r,y::t,n,h,hn=>by
  show(if x=n then y else tf r t n)∈y::t
  by_cases e:x=n
  ·rw[aas e];exact aav
  ·rw[aan e]
   exact aal _ (Cm (by simpa using h) ((XW.mp hn).elim (fun z=>absurd z.symm e) id))
theorem JB:∀{ns:List Nm} {ds:List Addr} {n m:Nm},ns.length=ds.length→ds.Nodup→n∈ns→m∈ns→tf ns ds n=tf ns ds m→n=m
 | [],_,_,_,_,_,hn,_,_=>by cases hn
 | _::_,[],_,_,h,_,_,_,_=>by simp at h
 | x::r,y::t,n,m,h,nd,hn,hm,e=>by
  have hl:r.length=t.length:=by simpa using h
  rw[aaX] at nd
  have e:(if x=n then y else tf r t n)=(if x=m then y else tf r t m):=e
  by_cases e1:x=n
  ·by_cases e2:x=m
   ·exact e1.symm.trans e2
   ·rw[aas e1,aan e2] at e
    exact absurd (e▸Cm hl ((XW.mp hm).elim (fun z=>absurd z.symm e2) id)) nd.1
  ·have PD:=(XW.mp hn).elim (fun z=>absurd z.symm e1) id
   by_cases e2:x=m
   ·rw[aan e1,aas e2] at e
    exact absurd (e▸Cm hl PD) nd.1
   ·rw[aan e1,aan e2] at e
    exact JB hl nd.2 PD ((XW.mp hm).elim (fun z=>absurd z.symm e2) id) e
structure U2(H:Hp)(p:Addr)(ns:List Nm)(ad:Nm→Addr)(sf:Nm→List Nm):Prop where
 at_:∃kvs,H p=some (.dT kvs)∧(∀n∈ns,iO kvs (nk n)=some (.ref (ad n)))∧kvs.map (·.1)=ns.map nk
 inj:∀n∈ns,∀m∈ns,ad n=ad m→n=m
 ks:∀n∈ns,AL H (ad n) (sf n)
theorem Lq{ls:List Ln}{l:Ln}{m n:Nm}:Sa (ls++[l]) m n↔Sa ls m n∨(l.nm=n∧l.up=some m)∨(l.nm=m∧l.lo=some n):=by
 unfold Sa
 constructor
 ·rintro⟨x,hx,q⟩
  rcases XX.mp hx with h|h
  ·exact .inl ⟨x,h,q⟩
  ·rw[US.mp h] at q;exact .inr q
 ·rintro(⟨x,hx,q⟩|q)
  ·exact⟨x,aat _ hx,q⟩
  ·exact⟨l,by simp,q⟩
def QL(A:Ad):Sp:=fun vs H Q _=>∃(a:Addr)(ls:List Ln),vs=[.ref a]∧qv A H a ls∧wN ls.length∧(ls.map (·.nm)).Nodup∧qa ls∧
 ∀p H' ad sf,gg H H'→H p=none→(∀n∈ls.map (·.nm),H (ad n)=none)→U2 H' p (ls.map (·.nm)) ad sf→(∀n,(sf n).Nodup∧∀m,m∈sf n↔Sa ls m n)→Q (.ref p) H'
theorem vG(T:Txt mg)(O:Ok K mg A):ik P w K mg base mT 1 A.pL A.pM ["lines"] (QL A):=by
 refine O.rX.f.q0 kq fun jx A0 outer s H vs Q E hr h=>?_
 obtain⟨a,ls,rfl,⟨as,ha,pa⟩,jQ,nd,cl,q⟩:=h
 have hlen:=aao pa
 refine⟨_,(de (kX 1 kq mF)
   (de (iC aar rfl (ie (pv 0)) (rm 2 kq) (fO (jc (by exact iI hr) (pv 1) (gq (pv 2) rfl) mF rfl)))
   (de (iC aar rfl (ie (pv 0)) (rm 2 kq) (de (ua (iE (i7 (oy (gq (pv 2) rfl))) (fO (jc (by exact iI hr) (xp hr (pv 1) (gq (pv 2) rfl)) (gq (pv 2) rfl) lD rfl)) ia))
   (fO (iE (i7 (oy (gq (pv 2) rfl))) (fO (jc (by exact iI hr) (xp hr (pv 1) (gq (pv 2) rfl)) (gq (pv 2) rfl) lD rfl)) ia))))
   (fO (h_ (pv 1)))))),?_⟩
 refine K3 ?_;intro _ _ _
 intro p hp
 have s1:gg H (upd H p (.dT [])):=(gg.refl H).new hp
 dsimp only [l6];refine IV ?_;intro _
 let Jv:=fun(i:Nat) (σ:St) (H2:Hp)=>∃(v:Option V)(ds:List Addr),σ=[rr a,rr p,v]∧gg H H2∧H2 p=some (.dT (zk ((ls.take i).map (·.nm)) ds))∧ds.length=((ls.take i).map (·.nm)).length∧ds.Nodup∧(∀d∈ds,H d=none∧d≠p∧H2 d=some (.dT []))
 refine⟨_,rfl,a,rfl,⟨_,hV.of (s1 a _ ha)⟩,iQ (K:=K) (a:=a) (xs:=as.map V.ref) Jv
  ⟨none,[],rfl,s1,b_,rfl,abb,fun d hd=>by cases hd⟩ (by rintro _ _ _ _ ⟨_,_,_,s3,_⟩;exact hV.of (s3 a _ ha)) ?_ ?_⟩
 ·rintro i v σ H2 hx ⟨v0,ds,rfl,s3,h1,h2,h3,h4⟩
  obtain⟨b,hb,rfl⟩:=j_ hx
  obtain⟨l,hl,dx,vn,vu,vl,g1,⟨t,rfl,g2⟩,g3,g4⟩:=ir pa hb
  have hi:i<ls.length:=(RO.mp hl).1
  intro d hd
  have s4:gg H (upd H2 d (.dT [])):=s3.new hd
  have VR:d≠p:=fun z=>by rw[z,h1] at hd;cases hd
  have Kx:d∉ds:=fun z=>by rw[(h4 d z).2.2] at hd;cases hd
  have LR:upd H2 d (.dT []) p=some (.dT (zk ((ls.take i).map (·.nm)) ds)):=by rw[d_ VR.symm];exact h1
  have z_:l.nm∉(ls.take i).map (·.nm):=fun z=>by
   have e2:(ls.map (·.nm)).take i=(ls.take i).map (·.nm):=List.map_take.symm
   rw[←e2] at z
   obtain⟨j,hj,e⟩:=aaP.mp z |>.imp fun j h=>(⟨(RO.mp h).1,h⟩:j<((ls.map (·.nm)).take i).length∧((ls.map (·.nm)).take i)[j]?=some l.nm)
   have FR:j<i:=by rw[aap] at hj;omega
   rw[abD,aas FR] at e
   have e3:(ls.map (·.nm))[i]?=some l.nm:=by rw[aak,hl];rfl
   have:=(abJ (RO.mp e).1 nd).mp (e.trans e3.symm)
   omega
  refine⟨_,rfl,_,rfl,b,A.g_,dx,_,_,rfl,s4 _ _ g1,O.iG,O.hE,i0,p,_,rfl,l9.t (k:=nk l.nm) LR (s4 _ _ g2) ?_,?_⟩
  ·have:(zk ((ls.take i).map (·.nm)) ds).length≤ds.length:=by unfold zk;rw[List.length_zipWith];exact Nat.min_le_right _ _
   rw[h2,RK,aap] at this
   exact abn (m:=4000) (by have:wN ls.length:=jQ;unfold wN at this;omega) (by decide)
  ·have e:putK (zk ((ls.take i).map (·.nm)) ds) (nk l.nm) (V.ref d)=zk ((ls.take (i+1)).map (·.nm)) (ds++[d]):=by
    rw[take_snoc hl,aau]
    show _=zk (_++[l.nm]) _
    rw[GA _ _ h2.symm]
    refine Dt _ ?_
    exact Ec (by rw[Ck h2.symm];exact fun z=>z_ (sh.mp z))
   rw[e]
   refine⟨_,ds++[d],rfl,s4.upd hp,b_,?_,?_,?_⟩
   ·rw[take_snoc hl,aau,UZ,UZ,h2];rfl
   ·rw[aa2]
    exact⟨h3,by simp,fun x hx y hy z=>Kx (by rw[US.mp hy] at z;exact z▸hx)⟩
   ·intro x hx
    rcases XX.mp hx with hx|hx
    ·obtain⟨k1,k2,k3⟩:=h4 x hx
     refine⟨k1,k2,?_⟩
     rw[d_ k2,d_ (fun z=>by rw[z] at hx;exact Kx hx)]
     exact k3
    ·rw[US.mp hx]
     exact⟨s3.free hd,VR,by rw[d_ VR];exact b_⟩
 ·rintro σ H2 ⟨v0,ds,rfl,s3,h1,h2,h3,h4⟩
  have el:(as.map V.ref).length=ls.length:=by rw[RK];exact hlen
  rw[el,aaf] at h1 h2
  have Ts:=h2.symm
  have CH:∀n∈ls.map (·.nm),iO (zk (ls.map (·.nm)) ds) (nk n)=some (.ref (tf (ls.map (·.nm)) ds n)):=fun n hn=>JA Ts hn
  have L0:∀n∈ls.map (·.nm),∀m∈ls.map (·.nm),tf (ls.map (·.nm)) ds n=tf (ls.map (·.nm)) ds m→n=m:=fun n hn m hm e=>JB Ts h3 hn hm e
  have tU:∀n∈ls.map (·.nm),H (tf (ls.map (·.nm)) ds n)=none∧tf (ls.map (·.nm)) ds n≠p∧H2 (tf (ls.map (·.nm)) ds n)=some (.dT []):=fun n hn=>h4 _ (Cm Ts hn)
  generalize tf (ls.map (·.nm)) ds=ad at CH L0 tU
  have MD:=Ck Ts
  generalize zk (ls.map (·.nm)) ds=kvs at h1 CH MD
  dsimp only [l6];refine IV ?_;intro _
  let Jv:=fun(i:Nat) (σ:St) (H3:Hp)=>∃(v:Option V)(sf:Nm→List Nm),σ=[rr a,rr p,v]∧gg H H3∧H3 p=some (.dT kvs)∧(∀n∈ls.map (·.nm),AL H3 (ad n) (sf n))∧∀n,(sf n).Nodup∧(sf n).length≤2*i∧∀m,m∈sf n↔Sa (ls.take i) m n
  refine⟨_,rfl,a,rfl,⟨_,hV.of (s3 a _ ha)⟩,iQ (K:=K) (a:=a) (xs:=as.map V.ref) Jv
   ⟨v0,fun _=>[],rfl,s3,h1,fun n hn=>⟨[],(tU n hn).2.2,rfl⟩,fun n=>⟨abb,aaK _,fun m=>⟨(fun z=>by cases z),fun⟨x,hx,_⟩=>by rw[abz] at hx;cases hx⟩⟩⟩ (by rintro _ _ _ _ ⟨_,_,_,s3,_⟩;exact hV.of (s3 a _ ha)) ?_ ?_⟩
  ·rintro i v σ H3 hx ⟨v1,sf,rfl,s4,k1,k2,k3⟩
   obtain⟨b,hb,rfl⟩:=j_ hx
   obtain⟨l,hl,dx,vn,vu,vl,g1,⟨t,rfl,g2⟩,g3,g4⟩:=ir pa hb
   have hi:i<ls.length:=(RO.mp hl).1
   have hi4:i<4000:=aaE hi jQ
   have yv:l.nm∈ls.map (·.nm):=aaa (VI hl)
   have step:∀{H3:Hp} {sf:Nm→List Nm} {n m:Nm},gg H H3→H3 p=some (.dT kvs)→(∀n∈ls.map (·.nm),AL H3 (ad n) (sf n))→n∈ls.map (·.nm)→∀dk,H3 (ad n)=some (.dT dk)→dk.map (·.1)=(sf n).map nk→
     gg H (upd H3 (ad n) (.dT (putK dk (nk m) (V.bl true))))∧upd H3 (ad n) (.dT (putK dk (nk m) (V.bl true))) p=some (.dT kvs)∧(∀x∈ls.map (·.nm),AL (upd H3 (ad n) (.dT (putK dk (nk m) (V.bl true)))) (ad x) (if x=n then ow (sf n) m else sf x)):=fun{H3 sf n m} s4 k1 k2 hn dk hdk VS=>by
    refine⟨s4.upd (tU n hn).1,by rw[d_ (tU n hn).2.1.symm];exact k1,fun x hx=>?_⟩
    by_cases e:x=n
    ·subst e
     rw[aas rfl]
     exact⟨_,b_,vF VS m _⟩
    ·rw[aan e]
     obtain⟨OT,e1,e2⟩:=k2 x hx
     exact⟨OT,by rw[d_ (fun z=>e (L0 x hx n hn z))];exact e1,e2⟩
   have Tt:∀m n,Sa (ls.take (i+1)) m n↔Sa (ls.take i) m n∨(l.nm=n∧l.up=some m)∨(l.nm=m∧l.lo=some n):=fun m n=>by rw[take_snoc hl];exact Lq
   refine⟨fun σ H4=>∃sf:Nm→List Nm,σ=[rr a,rr p,rr b]∧gg H H4∧H4 p=some (.dT kvs)∧(∀n∈ls.map (·.nm),AL H4 (ad n) (sf n))∧∀n,(sf n).Nodup∧(sf n).length≤2*i+1∧∀m,m∈sf n↔Sa (ls.take i) m n∨(l.nm=n∧l.up=some m),?_,?_⟩
   ·refine⟨_,rfl,b,A.g_,dx,_,_,rfl,s4 _ _ g1,O.iG,O.iz,Ci,_,rfl,?_⟩
    cases hu:l.up with
    | none=>
     rw[hu] at g3
     rw[show vu=V.jn from g3]
     exact⟨sf,rfl,s4,k1,k2,fun n=>⟨(k3 n).1,by have:=(k3 n).2.1;omega,fun m=>by rw[(k3 n).2.2 m];exact⟨.inl,fun z=>z.elim id fun z=>by cases z.2⟩⟩⟩
    | some u=>
     rw[hu] at g3
     obtain⟨tu,rfl,gu⟩:=(show kP H vu u from g3)
     obtain⟨dk,e1,e2⟩:=k2 l.nm yv
     have hdl:dk.length=(sf l.nm).length:=by have:=aa5 List.length e2;rwa [RK,RK] at this
     refine⟨_,rfl,_,rfl,b,A.g_,dx,_,_,rfl,s4 _ _ g1,O.iG,O.hE,i0,p,.ref (ad l.nm),rfl,?_,_,rfl,b,A.g_,dx,_,_,rfl,s4 _ _ g1,O.iG,O.iz,Ci,ad l.nm,_,rfl,l9.t (k:=nk u) e1 (s4 _ _ gu) (abn (m:=8000) (by have:=(k3 l.nm).2.1;omega) (by decide)),?_⟩
     ·have:=iT.t (k:=nk l.nm) k1 (s4 _ _ g2)
      rw[CH _ yv] at this
      exact this
     ·obtain⟨z1,z2,z3⟩:=step (m:=u) s4 k1 k2 yv dk e1 e2
      refine⟨fun x=>if x=l.nm then ow (sf l.nm) u else sf x,rfl,z1,z2,z3,fun n=>?_⟩
      obtain⟨y1,y2,y3⟩:=k3 n
      show(if n=l.nm then ow (sf l.nm) u else sf n).Nodup∧(if n=l.nm then ow (sf l.nm) u else sf n).length≤_∧∀m,m∈(if n=l.nm then ow (sf l.nm) u else sf n)↔_
      by_cases e:n=l.nm
      ·subst e
       rw[aas rfl]
       have:=Ed (l:=sf l.nm) (m:=u)
       refine⟨yK y1,by omega,fun m=>?_⟩
       rw[si,y3 m]
       exact⟨fun z=>z.elim .inl fun z=>.inr ⟨rfl,by rw[z]⟩,fun z=>z.elim .inl fun z=>.inr (aaD z.2).symm⟩
      ·rw[aan e]
       refine⟨y1,by omega,fun m=>?_⟩
       rw[y3 m]
       exact⟨.inl,fun z=>z.elim id fun z=>absurd z.1.symm e⟩
   ·rintro σ H4 ⟨GU,rfl,s5,k4,k5,k6⟩
    have fin:∀(OU:Nm→List Nm)(n:Nm),((OU n).Nodup∧(OU n).length≤2*i+2∧∀m,m∈OU n↔(Sa (ls.take i) m n∨(l.nm=n∧l.up=some m))∨(l.nm=m∧l.lo=some n))→(OU n).Nodup∧(OU n).length≤2*(i+1)∧∀m,m∈OU n↔Sa (ls.take (i+1)) m n:=fun OU n ⟨z1,z2,z3⟩=>
     ⟨z1,by omega,fun m=>by rw[z3 m,Tt m n,or_assoc]⟩
    refine⟨_,rfl,b,A.g_,dx,_,_,rfl,s5 _ _ g1,O.iG,O.iA,Cj,_,rfl,?_⟩
    cases hu:l.lo with
    | none=>
     rw[hu] at g4
     rw[show vl=V.jn from g4]
     refine⟨_,GU,rfl,s5,k4,k5,fun n=>fin GU n ⟨(k6 n).1,by have:=(k6 n).2.1;omega,fun m=>?_⟩⟩
     rw[(k6 n).2.2 m,hu]
     exact⟨.inl,fun z=>z.elim id fun z=>by cases z.2⟩
    | some d=>
     have Kx:d∈ls.map (·.nm):=(cl l (VI hl)).2 d hu
     rw[hu] at g4
     obtain⟨td,rfl,gd⟩:=(show kP H vl d from g4)
     obtain⟨dk,e1,e2⟩:=k5 d Kx
     have hdl:dk.length=(GU d).length:=by have:=aa5 List.length e2;rwa [RK,RK] at this
     refine⟨_,rfl,_,rfl,b,A.g_,dx,_,_,rfl,s5 _ _ g1,O.iG,O.iA,Cj,p,.ref (ad d),rfl,?_,_,rfl,b,A.g_,dx,_,_,rfl,s5 _ _ g1,O.iG,O.hE,i0,ad d,_,rfl,l9.t (k:=nk l.nm) e1 (s5 _ _ g2) (abn (m:=8001) (by have:=(k6 d).2.1;omega) (by decide)),?_⟩
     ·have:=iT.t (k:=nk d) k4 (s5 _ _ gd)
      rw[CH _ Kx] at this
      exact this
     ·obtain⟨z1,z2,z3⟩:=step (m:=l.nm) s5 k4 k5 Kx dk e1 e2
      refine⟨_,fun x=>if x=d then ow (GU d) l.nm else GU x,rfl,z1,z2,z3,fun n=>fin (fun x=>if x=d then ow (GU d) l.nm else GU x) n ?_⟩
      obtain⟨y1,y2,y3⟩:=k6 n
      show(if n=d then ow (GU d) l.nm else GU n).Nodup∧(if n=d then ow (GU d) l.nm else GU n).length≤_∧∀m,m∈(if n=d then ow (GU d) l.nm else GU n)↔_
      by_cases e:n=d
      ·subst e
       rw[aas rfl]
       have:=Ed (l:=GU n) (m:=l.nm)
       refine⟨yK y1,by omega,fun m=>?_⟩
       rw[si,y3 m,hu]
       exact⟨fun z=>z.elim .inl fun z=>.inr ⟨z.symm,rfl⟩,fun z=>z.elim .inl fun z=>.inr z.1.symm⟩
      ·rw[aan e]
       refine⟨y1,by omega,fun m=>?_⟩
       rw[y3 m,hu]
       exact⟨.inl,fun z=>z.elim id fun z=>absurd (aaD z.2).symm e⟩
  ·rintro σ H3 ⟨v1,sf,rfl,s4,k1,k2,k3⟩
   rw[RK,hlen] at k3
   exact⟨_,rfl,q p _ ad sf s4 hp (fun n hn=>(tU n hn).1) ⟨⟨kvs,k1,CH,MD⟩,L0,k2⟩ fun n=>⟨(k3 n).1,fun m=>by rw[(k3 n).2.2 m,aaf]⟩⟩
theorem kP.upd{H:Hp}{v:V}{n:Nm}{x:Addr}{o o':HO}(h:kP H v n)(hx:H x=some o')(ht:∀xs,o'≠.tup xs):kP (L2.upd H x o) v n:=by
 obtain⟨t,e,VJ⟩:=h
 exact⟨t,e,by rw[d_ (i9 VJ hx (fun z=>ht _ z.symm))];exact VJ⟩
theorem sj{dk:List (List Key×V)}{l:List Nm}(h:dk.map (·.1)=l.map nk):dk.length=l.length:=by
 have:=aa5 List.length h
 rwa [RK,RK] at this
theorem Ee{dk:List (List Key×V)}{l:List Nm}(h:dk.map (·.1)=l.map nk){i:Nat}{k:List Key}{v:V}(hi:dk[i]?=some (k,v)):∃n,l[i]?=some n∧k=nk n:=by
 have h1:(dk.map (·.1))[i]?=some k:=by rw[aak,hi];rfl
 rw[h,aak] at h1
 obtain⟨n,e,e2⟩:=aaF.mp h1
 exact⟨n,e,e2.symm⟩
theorem keys_has{dk:List (List Key×V)}{l:List Nm}(h:dk.map (·.1)=l.map nk)(n:Nm):(iO dk (nk n)).isSome=decide (n∈l):=by
 by_cases m:n∈l
 ·rw[XU m];exact sS.mpr (by rw[h];exact sh.mpr m)
 ·rw[aah m,abc];exact fun z=>m (sh.mp (by rw[←h];exact sS.mp z))
theorem Ef:∀(more:List (List Key×V))(dk:List (List Key×V))(l r:List Nm),dk.map (·.1)=l.map nk→more.map (·.1)=r.map nk→l.Nodup→∃l':List Nm,(putAll dk more).map (·.1)=l'.map nk∧l'.Nodup∧∀m,m∈l'↔m∈l∨m∈r
 | [],dk,l,r,h1,h2,nd=>by
  have:r=[]:=by cases r with|nil=>rfl|cons _ _=>cases h2
  subst this
  exact⟨l,h1,nd,fun m=>by simp⟩
 | p::t,dk,l,r,h1,h2,nd=>by
  cases r with
  | nil=>cases h2
  | cons x r=>
   rw[aaw,aaw] at h2
   injection h2 with e1 e2
   rw[rj,e1]
   obtain⟨l',z1,z2,z3⟩:=Ef t (putK dk (nk x) p.2) (ow l x) r (vF h1 x _) e2 (yK nd)
   refine⟨l',z1,z2,fun m=>?_⟩
   rw[z3 m,si,XW,or_assoc]
def N0:Sp:=fun vs H Q _=>∃(d a:Addr)(xs:List Nm)(ka:List (List Key×V))(af:Nm→List Nm),vs=[.ref d,.ref a]∧AL H d xs∧d≠a∧H a=some (.dT ka)∧(∀x∈xs,∃b,iO ka (nk x)=some (.ref b)∧b≠d∧AL H b (af x))∧xs.length≤4000∧(∀x∈xs,(af x).length≤4000)∧
 ∀p H' rs,gg H H'→H p=none→AL H' p rs→rs.Nodup→(∀m,m∈rs↔∃x∈xs,m=x∨m∈af x)→Q (.ref p) H'
theorem Hs(T:Txt mg)(O:Ok K mg A):ik P w K mg base mT 1 A.D2 A.D3 ["names","ahead"] N0:=by
 refine O.joined.f.q0 wB fun jx A0 outer s H vs Q E hr h=>?_
 obtain⟨d,a,xs,ka,af,rfl,⟨kd,hd,hk⟩,hda,ha,hb,hx4,haf,q⟩:=h
 refine⟨_,(de (kX 2 wB mF)
   (de (sJ (iC aar rfl (ze (pv 0)) (rm 3 wB) (de (jc (by exact iI hr) (pv 2) (pv 3) lD rfl)
   (fO (hG (Jg (by exact iI hr) (pv 2) (xp hr (pv 1) (pv 3)) ⟨rfl,rfl,rfl,rfl⟩))))))
   (fO (h_ (pv 2))))),?_⟩
 refine EK ?_;intro _ _
 intro p hp
 have RQ:p≠d:=(gb hd hp).symm
 have RS:p≠a:=(gb ha hp).symm
 refine⟨_,rfl,d,kd,rfl,by rw[d_ RQ.symm];exact hd,fun o uz=>?_⟩
 have HP:=sj hk
 let Jv:=fun(i:Nat) (σ:St) (H2:Hp)=>∃(v:Option V)(kf:List (List Key×V))(rs:List Nm),σ=[rr d,rr a,rr p,v]∧(∀b o,H b=some o→b≠d→H2 b=some o)∧H2 d=some (.mQ o (.dT kd))∧H2 p=some (.dT kf)∧kf.map (·.1)=rs.map nk∧rs.Nodup∧kf.length≤i*4001∧∀m,m∈rs↔∃x∈xs.take i,m=x∨m∈af x
 refine Bh (d:=d) (o:=o) (kvs:=kd) Jv
  ⟨none,[],[],rfl,fun b o e nb=>by rw[d_ nb,d_ (gb e hp)];exact e,b_,by rw[d_ RQ];exact b_,rfl,abb,by simp,fun m=>by simp⟩ (by rintro _ _ _ ⟨_,_,_,_,_,e,_⟩;exact e) ?_ ?_
 ·rintro i k v t σ H2 hi ht ⟨v0,kf,rs,rfl,h1,h2,h3,h4,h5,h6,h7⟩
  obtain⟨x,hx,rfl⟩:=Ee hk hi
  have YH:x∈xs:=VI hx
  have AW:i<xs.length:=(RO.mp hx).1
  obtain⟨b,e1,e2,kb,e3,e4⟩:=hb x YH
  have YI:b≠p:=gb e3 hp
  have Mz:=sj e4
  have VT:=haf x YH
  have htp:t≠p:=fun z=>by rw[z,h3] at ht;cases ht
  have hl:=ju kf (nk x) (V.bl true)
  have sz:sizeLine=16777216:=aaC
  have hmul:i*4001≤4000*4001:=Nat.mul_le_mul_right _ (by omega)
  refine⟨_,rfl,_,rfl,p,_,rfl,l9.t (k:=nk x) h3 ht (by omega),?_⟩
  have qA:putK kf (nk x) (V.bl true)≠[]:=fun z=>by
   have:=vF h4 x (V.bl true)
   rw[z] at this
   have hm:x∈ow rs x:=si.mpr (.inr rfl)
   cases hq:ow rs x with
   | nil=>rw[hq] at hm;cases hm
   | cons _ _=>rw[hq] at this;cases this
  refine⟨_,rfl,p,rfl,.inr ⟨_,.inl b_⟩,_,rfl,_,rfl,a,.ref b,rfl,?_,b,_,kb,rfl,b_,.inl (by rw[d_ YI];exact h1 _ _ e3 e2),YI.symm,qA,by omega,?_⟩
  ·have:=iT.t (H:=L2.upd H2 p (.dT (putK kf (nk x) (V.bl true)))) (k:=nk x) (by rw[d_ RS.symm];exact h1 a _ ha hda.symm) (b:=t) (by rw[d_ htp];exact ht)
   rw[e1] at this
   exact this
  ·obtain⟨l',z1,z2,z3⟩:=Ef kb _ (ow rs x) (af x) (vF h4 x (V.bl true)) e4 (yK h5)
   refine⟨_,_,l',rfl,fun b o e nb=>?_,?_,b_,z1,z2,?_,fun m=>?_⟩
   ·rw[d_ (gb e hp),d_ (gb e hp)];exact h1 b o e nb
   ·rw[d_ RQ.symm,d_ RQ.symm];exact h2
   ·have:=p7 kb (putK kf (nk x) (V.bl true))
    have:(i+1)*4001=i*4001+4001:=Nat.succ_mul _ _
    omega
   ·rw[z3 m,si,h7 m,take_snoc hx]
    constructor
    ·rintro((⟨y,hy,z⟩|z)|z)
     ·exact⟨y,aat _ hy,z⟩
     ·exact⟨x,by simp,.inl z⟩
     ·exact⟨x,by simp,.inr z⟩
    ·rintro⟨y,hy,z⟩
     rcases XX.mp hy with hy|hy
     ·exact .inl (.inl ⟨y,hy,z⟩)
     ·rw[US.mp hy] at z
      exact z.elim (fun z=>.inl (.inr z)) .inr
 ·rintro σ H2 ⟨v0,kf,rs,rfl,h1,h2,h3,h4,h5,h6,h7⟩
  rw[HP,aaf] at h7
  refine⟨d,o,_,h2,uz,_,rfl,q p _ rs (fun b u e=>?_) hp ⟨kf,by rw[d_ RQ];exact h3,h4⟩ h5 h7⟩
  by_cases VU:b=d
  ·subst VU;rw[b_];rw[hd] at e;exact e
  ·rw[d_ VU];exact h1 b u e VU
structure o8(ls:List Ln)(H1 H:Hp)(h:Addr)(S:List Nm)(af:Nm→List Nm):Prop where
 ex:∃kvs,H h=some (.dT kvs)∧kvs.map (·.1)=S.map nk∧∀n∈S,∃b,iO kvs (nk n)=some (.ref b)∧b≠h∧H1 b=none∧AL H b (af n)
 nd:S.Nodup
 good:∀n∈S,n∈ls.map (·.nm)∧(af n).Nodup∧∀m,m∈af n↔Ah ls m n
theorem o8.same{ls:List Ln}{H1 H H':Hp}{h:Addr}{S:List Nm}{af:Nm→List Nm}(x:o8 ls H1 H h S af)(s:gg H H'):o8 ls H1 H' h S af:=by
 obtain⟨⟨kvs,e1,e2,e3⟩,nd,g⟩:=x
 refine⟨⟨kvs,s _ _ e1,e2,fun n hn=>?_⟩,nd,g⟩
 obtain⟨b,z1,z2,z3,dk,z4,z5⟩:=e3 n hn
 exact⟨b,z1,z2,z3,dk,s _ _ z4,z5⟩
theorem o8.lst{ls:List Ln}{H1 H:Hp}{h c:Addr}{S:List Nm}{af:Nm→List Nm}{xs:List V}{o:HO}(x:o8 ls H1 H h S af)(hc:H c=some (.lst xs)):o8 ls H1 (L2.upd H c o) h S af:=by
 obtain⟨⟨kvs,e1,e2,e3⟩,nd,g⟩:=x
 refine⟨⟨kvs,by rw[d_ (i9 e1 hc (fun z=>by cases z))];exact e1,e2,fun n hn=>?_⟩,nd,g⟩
 obtain⟨b,z1,z2,z3,dk,z4,z5⟩:=e3 n hn
 exact⟨b,z1,z2,z3,dk,by rw[d_ (i9 z4 hc (fun z=>by cases z))];exact z4,z5⟩
theorem GB{sf:Nm→List Nm}{B n:Nat}{st S:List Nm}(r:Run sf B n st S):st.length≤B:=by
 cases r with
 | nil=>exact aaK _
 | skip _ h _=>exact h
 | fin _ _ h _=>exact h
 | push _ _ h _=>exact h
theorem Eg{α β:Type}{F:α→β→Prop}{vs:List α}{xs:List β}{x:β}(p:Paired F vs (xs++[x])):∃Tu v,vs=Tu++[v]∧Paired F Tu xs∧F v x:=by
 induction xs generalizing vs with
 | nil=>
  cases p with
  | cons f t=>cases t;exact⟨[],_,rfl,.nil,f⟩
 | cons y r ih=>
  cases p with
  | cons f t=>
   obtain⟨Tu,v,rfl,h1,h2⟩:=ih t
   exact⟨_::Tu,v,rfl,.cons f h1,h2⟩
def Cn(H:Hp)(p:Addr)(ls:List Ln):Prop:=∃kvs,H p=some (.dT kvs)∧∀n∈ls.map (·.nm),∃b dk,iO kvs (nk n)=some (.ref b)∧H b=some (.dT dk)∧∀m,(iO dk (nk m)).isSome=true↔Ah ls m n
theorem Cn.same{H H':Hp}{p:Addr}{ls:List Ln}(x:Cn H p ls)(s:gg H H'):Cn H' p ls:=by
 obtain⟨kvs,e1,e2⟩:=x
 refine⟨kvs,s _ _ e1,fun n hn=>?_⟩
 obtain⟨b,dk,z1,z2,z3⟩:=e2 n hn
 exact⟨b,dk,z1,s _ _ z2,z3⟩
def QM(A:Ad):Sp:=fun vs H Q _=>∃(a:Addr)(ls:List Ln),vs=[.ref a]∧qv A H a ls∧wN ls.length∧(ls.map (·.nm)).Nodup∧qa ls∧Jn ls∧∀p H',gg H H'→H p=none→Cn H' p ls→Q (.ref p) H'
theorem Co(T:Txt mg)(O:Ok K mg A):ik P w K mg base mT 2 A.xD A.xE ["lines"] (QM A):=by
 have wW:=@vG P w K mg base A T O
 have J_:=@Hs P w K mg base A T O
 refine O.Bm.f.q0 jF fun jx A0 outer s H vs Q E hr h=>?_
 obtain⟨a,ls,rfl,la,jQ,nd,cl,tp,q⟩:=h
 obtain⟨as,ha,pa⟩:=id la
 have hlen:=aao pa
 have yw:ls.length≤4000:=jQ
 refine⟨_,(de (kX 1 jF (rl O.rX wW hr (a_ (pv 0) e_)))
   (de (lE (i:=2) jF.nd rfl (Or.inr rfl) mF)
   (de (iC aar rfl (ie (pv 0)) (rm 3 jF) (de (kX 4 jF (i8 (a_ (gq (pv 3) rfl) e_)))
   (fO (Dd aar (uL (pv 4) (fun _=>rfl)) (de (kX 5 jF (Nj aaJ PySem.F.slot_list_pop PySem.F.type_list_pop Nl (pv 4)))
   (de (iE (i7 (mS (by exact iI hr) (pv 5) (pv 2))) (fO (Dc)) ia)
   (de (sJ (BU (j:=6) xt (fZ oH).names [7] jF.nd rfl rfl rfl (ze (xp hr (pv 1) (pv 5))) rfl (by decide+kernel) (fun _ _ _ _=>(iy (i:=7) jF.nd rfl (Or.inl rfl))) (fun _ _ _ _=>⟨_,l_ (i7 (kG (by exact iI hr) (pv 7) (pv 2))),by(try simp only [j6]);rfl⟩) (fun _ _ _ _=>yG (pv 7))))
   (fO (iE (uL (pv 6) (fun _=>rfl)) (de (hG (oA aaJ aaQ aaR jW (pv 4) (a_ (pv 5) e_)))
   (fO (hG (oA aaJ PySem.F.slot_list_extend PySem.F.type_list_extend A7 (pv 4) (a_ (pv 6) e_))))) (fO (jc (by exact iI hr) (pv 2) (pv 5) (rl O.joined J_ hr (a_ (xp hr (pv 1) (pv 5)) (a_ (pv 2) e_))) rfl)))))))))))
   (fO (h_ (pv 2)))))),?_⟩
 refine K3 ?_;intro _ _ _
 refine⟨_,rfl,a,ls,rfl,la,jQ,nd,cl,fun st H1 ad sf s1 hst0 had0 yt OV=>?_⟩
 obtain⟨⟨kst,L1,RT,hst3⟩,L0,VS⟩:=yt
 have hN:(1+ls.length*ls.length)≤16000001:=by have:=Nat.mul_le_mul yw yw;omega
 have sz:sizeLine=16777216:=aaC
 have RU:∀n,(sf n).length≤4000:=fun n=>by
  have:=len_sub (ys:=ls.map (·.nm)) (OV n).1 fun y hy=>(cl.sa (((OV n).2 y).mp hy)).1
  rw[RK] at this;omega
 intro h hh
 have s2:gg H1 (L2.upd H1 h (.dT [])):=(gg.refl H1).new hh
 dsimp only [l6];refine IV ?_;intro _
 let Jv:=fun(i:Nat) (σ:St) (H2:Hp)=>∃(v3 v4 v5 v6:Option V)(S:List Nm)(af:Nm→List Nm),σ=[rr a,rr st,rr h,v3,v4,v5,v6,none]∧gg H1 H2∧o8 ls H1 H2 h S af∧∀l∈ls.take i,l.nm∈S
 refine⟨_,rfl,a,rfl,⟨_,hV.of (s2 _ _ (s1 _ _ ha))⟩,iQ (K:=K) (a:=a) (xs:=as.map V.ref) Jv
  ⟨none,none,none,none,[],fun _=>[],rfl,s2,⟨⟨[],b_,rfl,fun n hn=>by cases hn⟩,abb,fun n hn=>by cases hn⟩,fun l hl=>by rw[abz] at hl;cases hl⟩ (by rintro _ _ _ _ ⟨_,_,_,_,_,_,_,s3,_⟩;exact hV.of (s3 _ _ (s1 _ _ ha))) ?_ ?_⟩
 ·rintro i v σ H2 hx ⟨v3,v4,v5,v6,S0,af0,rfl,s3,D0,hS0⟩
  obtain⟨b,hb,rfl⟩:=j_ hx
  obtain⟨l,hl,dx,vn,vu,vl,g1,⟨t0,rfl,g2⟩,g3,g4⟩:=ir pa hb
  have yv:l.nm∈ls.map (·.nm):=aaa (VI hl)
  refine⟨_,rfl,b,A.g_,dx,_,_,rfl,s3 _ _ (s1 _ _ g1),O.iG,O.hE,i0,L2.jQ,fun c hc=>?_⟩
  have VV:H1 c=none:=s3.free hc
  have s4:gg H1 (L2.upd H2 c (.lst [.ref t0])):=s3.new hc
  obtain⟨n0,r0⟩:=Jo cl tp OV l.nm S0
  refine⟨fun m σ H3=>∃(v5 v6:Option V)(sk S:List Nm)(af:Nm→List Nm)(cv:List V),σ=[rr a,rr st,rr h,rr b,rr c,v5,v6,none]∧Run sf (1+ls.length*ls.length) m sk S∧gg H1 H3∧H3 c=some (.lst cv)∧Paired (kP H3) cv sk.reverse∧o8 ls H1 H3 h S af∧(∀y∈sk,y∈ls.map (·.nm))∧(l.nm∈sk∨l.nm∈S)∧(∀y∈S0,y∈S),
   ⟨n0,v5,v6,[l.nm],S0,af0,[.ref t0],rfl,r0,s4,b_,.cons ⟨t0,rfl,s4 _ _ (s1 _ _ g2)⟩ .nil,D0.same ((gg.refl H2).new hc),fun y hy=>by rw[US.mp hy];exact yv,.inl (by simp),fun _ z=>z⟩,?_⟩
  rintro m σ H3 ⟨v5,v6,sk,S,af,cv,rfl,run,s5,OW,VW,D,VX,J3,hS⟩
  cases sk with
  | nil=>
   have:cv=[]:=by cases VW;rfl
   subst this
   refine⟨_,rfl,false,.inl ⟨_,hV.of OW,rfl⟩,kA ?_⟩
   refine⟨_,_,_,_,S,af,rfl,s5,D,fun y hy=>?_⟩
   rw[take_snoc hl] at hy
   rcases XX.mp hy with hy|hy
   ·exact hS _ (hS0 y hy)
   ·rw[US.mp hy]
    exact J3.elim (fun z=>by cases z) id
  | cons x sk=>
   rw[List.reverse_cons] at VW
   obtain⟨Ia,vx,rfl,RV,t,rfl,ht⟩:=Eg VW
   have Ka:x∈ls.map (·.nm):=VX x aav
   have RW:∀y∈sk,y∈ls.map (·.nm):=fun y hy=>VX y (aal _ hy)
   have EN:Ia.length=sk.length:=by have:=aao RV;rwa [abj] at this
   refine⟨_,rfl,true,.inl ⟨_,hV.of OW,by simp⟩,mG ?_⟩
   obtain⟨n,hn,run'⟩:∃n,m=n+1∧(x∈S∧Run sf (1+ls.length*ls.length) n sk S∨x∉S∧DO sf S x=[]∧Run sf (1+ls.length*ls.length) n sk (S++[x])∨x∉S∧DO sf S x≠[]∧Run sf (1+ls.length*ls.length) n ((DO sf S x).reverse++x::sk) S):=by
    cases run with
    | skip z1 _ z2=>exact⟨_,rfl,.inl ⟨z1,z2⟩⟩
    | fin z1 z2 _ z3=>exact⟨_,rfl,.inr (.inl ⟨z1,z2,z3⟩)⟩
    | push z1 z2 _ z3=>exact⟨_,rfl,.inr (.inr ⟨z1,z2,z3⟩)⟩
   have J4:sk.length+1≤16000001:=by have:=GB run;rw[aae] at this;omega
   subst hn
   refine⟨fun σ H4=>∃(v5 v6:Option V)(sk S:List Nm)(af:Nm→List Nm)(cv:List V),σ=[rr a,rr st,rr h,rr b,rr c,v5,v6,none]∧Run sf (1+ls.length*ls.length) n sk S∧gg H1 H4∧H4 c=some (.lst cv)∧Paired (kP H4) cv sk.reverse∧o8 ls H1 H4 h S af∧(∀y∈sk,y∈ls.map (·.nm))∧(l.nm∈sk∨l.nm∈S)∧(∀y∈S0,y∈S),fun σ' H' z=>⟨n,ach n,z⟩,?_⟩
   refine⟨_,rfl,.inl ⟨rfl,_,hV.of OW⟩,c,_,.ref t,rfl,rfl,OW,by simp,?_⟩
   rw[List.dropLast_concat]
   have D4:o8 ls H1 (L2.upd H3 c (.lst Ia)) h S af:=D.lst OW
   have s6:gg H1 (L2.upd H3 c (.lst Ia)):=s5.upd VV
   have p4:Paired (kP (L2.upd H3 c (.lst Ia))) Ia sk.reverse:=Paired.kS RV fun _ _ z=>z.upd OW (fun _ z=>by cases z)
   have PV:L2.upd H3 c (.lst Ia) t=some (nT x):=by rw[d_ (i9 ht OW (fun z=>by cases z))];exact ht
   have OX:L2.upd H3 c (.lst Ia) c=some (.lst Ia):=b_
   generalize L2.upd H3 c (.lst Ia)=H4 at D4 s6 p4 PV OX ⊢
   obtain⟨⟨kvs,e1,e2,e3⟩,VY,good⟩:=id D4
   refine⟨_,rfl,_,rfl,h,_,rfl,iT.t (k:=nk x) e1 PV,_,rfl,?_⟩
   rw[keys_has e2 x]
   rcases run' with⟨PX,r⟩|ME
   ·rw[XU PX]
    refine mG ⟨_,_,sk,S,af,Ia,rfl,r,s6,OX,p4,D4,RW,?_,hS⟩
    exact J3.elim (fun z=>(XW.mp z).elim (fun z=>.inr (z▸PX)) .inl) .inr
   ·have PX:x∉S:=ME.elim (·.1) (·.1)
    rw[aah PX]
    refine kA ?_
    obtain⟨dk,VZ,hd2⟩:=VS x Ka
    have V0:=s6 _ _ VZ
    have RX:ad x≠h:=gb VZ hh
    refine⟨_,rfl,_,rfl,st,.ref (ad x),rfl,?_,ad x,dk,rfl,V0,fun o uz=>?_⟩
    ·have:=iT.t (k:=nk x) (s6 _ _ L1) PV
     rw[RT x Ka] at this
     exact this
    have V1:∀{y:Addr} {u:HO},y≠ad x→H4 y=some u→L2.upd H4 (ad x) (.mQ o (.dT dk)) y=some u:=fun ny e=>by rw[d_ ny];exact e
    refine Jc (d:=ad x) (o:=o) (kvs:=dk) (by rw[sj hd2];exact aad (RU x) (by decide)) (fun i ys σ H5=>∃(v7:Option V),σ=[rr a,rr st,rr h,rr b,rr c,rr t,v6,v7]∧H5=L2.upd H4 (ad x) (.mQ o (.dT dk))∧ys.length≤i∧Paired (kP (L2.upd H4 (ad x) (.mQ o (.dT dk)))) ys (((sf x).take i).filter fun y=>y∉S))
     ⟨none,rfl,rfl,U0 _,.nil⟩ (by rintro _ _ _ _ ⟨_,_,e,e4,_⟩;subst e;exact⟨b_,e4⟩) ?_ ?_
    ·rintro i k v tb ys σ H5 hi V2 ⟨v7,rfl,rfl,e4,e5⟩
     obtain⟨y,hy,rfl⟩:=Ee hd2 hi
     refine⟨_,rfl,_,rfl,h,_,rfl,iT.t (k:=nk y) (V1 RX.symm e1) V2,_,rfl,?_⟩
     rw[keys_has e2 y,take_snoc hy,aaM]
     by_cases hm:y∈S
     ·rw[XU hm]
      refine kA ⟨_,rfl,rfl,by omega,?_⟩
      rw[aaj (by simpa using hm),aaU,aaN]
      exact e5
     ·rw[aah hm]
      refine mG ⟨_,rfl,_,rfl,rfl,Mn,?_⟩
      rw[XZ (by simpa using hm),aaU]
      exact iD e5 ⟨tb,rfl,V2⟩
    ·rintro ys σ H5 ⟨v7,rfl,rfl,e4,e5⟩ p hp
     rw[sj hd2,aaf] at e5
     have RS:p≠ad x:=fun z=>by rw[z,b_] at hp;cases hp
     have PY:H4 p=none:=by rw[d_ RS] at hp;exact hp
     refine⟨ad x,o,_,by rw[d_ RS.symm];exact b_,uz,?_⟩
     rw[BW V0 RS]
     have pm:Paired (kP H4) ys (DO sf S x):=Paired.kS e5 fun v y ⟨tb,e,z⟩=>⟨tb,e,by
      have:tb≠ad x:=fun w=>by rw[w,b_] at z;cases z
      rwa [d_ this] at z⟩
     have s7:gg H4 (L2.upd H4 p (.lst ys)):=(gg.refl H4).new PY
     have YJ:ys.length=(DO sf S x).length:=aao pm
     refine⟨_,rfl,!ys.isEmpty,.inl ⟨_,hV.of b_,rfl⟩,?_⟩
     rcases ME with⟨_,Tv,r⟩|⟨_,Tv,r⟩
     ·
      have:ys=[]:=aaO.mp (by rw[YJ,Tv];rfl)
      subst this
      refine kA ?_
      have CG:=B0.mp Tv
      refine⟨_,rfl,_,rfl,st,.ref (ad x),rfl,?_,_,rfl,ad x,h,sf x,kvs,af,rfl,⟨dk,s7 _ _ V0,hd2⟩,RX,s7 _ _ e1,fun y hy=>?_,RU x,fun y hy=>?_,fun p2 H6 rs s8 AA Ry nd2 hm2=>?_⟩
      ·have:=iT.t (k:=nk x) (s7 _ _ (s6 _ _ L1)) (s7 _ _ PV)
       rw[RT x Ka] at this
       exact this
      ·obtain⟨bb,z1,z2,z3,OT,z4,z5⟩:=e3 y (CG y hy)
       exact⟨bb,z1,(gb VZ z3).symm,OT,s7 _ _ z4,z5⟩
      ·obtain⟨z1,z2,z3⟩:=good y (CG y hy)
       have:=len_sub (ys:=ls.map (·.nm)) z2 fun m hm=>(cl.ah ((z3 m).mp hm)).1
       rw[RK] at this;omega
      ·have s9:=s7.trans s8
       have hSl:S.length≤4000:=by
        have:=len_sub (ys:=ls.map (·.nm)) VY fun m hm=>(good m hm).1
        rw[RK] at this;omega
       have e6:H6 h=some (.dT kvs):=s9 _ _ e1
       refine⟨_,rfl,_,rfl,h,_,rfl,l9.t (k:=nk x) e6 (s9 _ _ PV) (by rw[sj e2];omega),?_⟩
       have RY:p2≠h:=(gb (s7 _ _ e1) AA).symm
       have V3:H1 p2=none:=(s6.trans s7).free AA
       have key:putK kvs (nk x) (V.ref p2)=kvs++[(nk x,V.ref p2)]:=Dt _ (Ec (by rw[e2];exact fun z=>PX (sh.mp z)))
       have hhT:H1 h=none:=hh
       refine⟨_,_,sk,S++[x],fun y=>if y=x then rs else af y,Ia,rfl,r,(s6.trans s9).upd hhT,?_,?_,⟨⟨_,b_,?_,fun y hy=>?_⟩,?_,fun y hy=>?_⟩,RW,?_,fun y hy=>aat _ (hS y hy)⟩
       ·rw[d_ (i9 (s9 _ _ OX) e6 (fun z=>by cases z))];exact s9 _ _ OX
       ·exact Paired.kS p4 fun _ _ z=>(z.same s9).upd e6 (fun _ z=>by cases z)
       ·rw[key,aau,e2,aau];rfl
       ·show ∃bb,iO (putK kvs (nk x) (V.ref p2)) (nk y)=some (V.ref bb)∧bb≠h∧H1 bb=none∧AL _ bb (if y=x then rs else af y)
        rw[jY]
        by_cases e:y=x
        ·subst e
         rw[aas rfl,aas rfl]
         obtain⟨OT,w1,w2⟩:=Ry
         exact⟨p2,rfl,RY,V3,OT,by rw[d_ RY];exact w1,w2⟩
        ·rw[aan (fun z=>e (o7 z)),aan e]
         have hyS:y∈S:=(XX.mp hy).elim id fun z=>absurd (US.mp z) e
         obtain⟨bb,z1,z2,z3,OT,z4,z5⟩:=e3 y hyS
         exact⟨bb,z1,z2,z3,OT,by rw[d_ z2];exact s9 _ _ z4,z5⟩
       ·rw[aa2]
        exact⟨VY,by simp,fun u hu w hw z=>PX (by rw[US.mp hw] at z;have z:u=x:=z;exact z▸hu)⟩
       ·show y∈ls.map (·.nm)∧(if y=x then rs else af y).Nodup∧∀m,m∈(if y=x then rs else af y)↔Ah ls m y
        by_cases e:y=x
        ·subst e
         rw[aas rfl]
         refine⟨Ka,nd2,fun m=>?_⟩
         rw[hm2 m,Ah.last]
         constructor
         ·rintro⟨u,hu,z⟩
          have Tt:=((OV y).2 u).mp hu
          rcases z with z|z
          ·exact .inl (z▸Tt)
          ·exact .inr ⟨u,((good u (CG u hu)).2.2 m).mp z,Tt⟩
         ·rintro(z|⟨u,z1,z2⟩)
          ·exact⟨m,((OV y).2 m).mpr z,.inl rfl⟩
          ·have hu:=((OV y).2 u).mpr z2
           exact⟨u,hu,.inr (((good u (CG u hu)).2.2 m).mpr z1)⟩
        ·rw[aan e]
         exact good y ((XX.mp hy).elim id fun z=>absurd (US.mp z) e)
       ·exact J3.elim (fun z=>(XW.mp z).elim (fun z=>.inr (by rw[z];simp)) .inl) fun z=>.inr (aat _ z)
     ·
      have hys:(!ys.isEmpty)=true:=by
       cases ys with
       | nil=>exact absurd (aaO.mp YJ.symm) Tv
       | cons _ _=>rfl
      refine DC hys ?_
      have EM:=GB r
      rw[UZ,abj,aae] at EM
      have Tw:=s7 _ _ OX
      refine⟨_,rfl,.inl ⟨rfl,_,hV.of Tw⟩,_,rfl,c,_,_,rfl,rfl,Tw,by omega,?_⟩
      have hpc:p≠c:=(gb OX PY).symm
      refine⟨_,rfl,.inl ⟨rfl,_,hV.of b_⟩,_,rfl,c,p,_,_,rfl,rfl,b_,by rw[d_ hpc];exact b_,by rw[UZ];show Ia.length+1+ys.length≤_;omega,?_⟩
      refine⟨_,_,(DO sf S x).reverse++x::sk,S,af,_,rfl,r,((s6.trans s7).upd VV).upd VV,b_,?_,((D4.same s7).lst Tw).lst b_,fun y hy=>?_,?_,hS⟩
      ·rw[List.reverse_append,List.reverse_reverse,List.reverse_cons]
       refine Paired.kS (F:=kP (L2.upd H4 p (.lst ys))) (uk (iD (Paired.kS p4 fun _ _ z=>z.same s7) ⟨t,rfl,s7 _ _ PV⟩) (Paired.kS pm fun _ _ z=>z.same s7)) fun _ _ z=>?_
       exact(z.upd Tw (fun _ z=>by cases z)).upd b_ (fun _ z=>by cases z)
      ·rcases XX.mp hy with hy|hy
       ·have hy:=(aaq.mp (List.mem_reverse.mp hy)).1
        exact(cl.sa (((OV x).2 y).mp hy)).1
       ·exact VX y hy
      ·exact J3.elim (fun z=>.inl (aaL _ z)) .inr
 ·rintro σ H2 ⟨v3,v4,v5,v6,S,af,rfl,s3,⟨⟨kvs,e1,e2,e3⟩,VY,good⟩,hS⟩
  rw[RK,hlen,aaf] at hS
  refine⟨_,rfl,q h _ (s1.trans s3) (s1.free hh) ⟨kvs,e1,fun n hn=>?_⟩⟩
  obtain⟨l,hl,rfl⟩:=aaH.mp hn
  obtain⟨bb,z1,z2,z3,dk,z4,z5⟩:=e3 _ (hS l hl)
  exact⟨bb,dk,z1,z4,fun m=>by rw[sS,z5,sh];exact(good _ (hS l hl)).2.2 m⟩
theorem JC{κ:Type}[DecidableEq κ]:∀{kvs:List (κ×V)} {i:Nat} {k:κ} {v:V},(kvs.map (·.1)).Nodup→kvs[i]?=some (k,v)→iO kvs k=some v
 | [],_,_,_,_,h=>by simp at h
 | p::r,i,k,v,nd,h=>by
  rw[aaw,aaX] at nd
  cases i with
  | zero=>simp at h;subst h;exact jm rfl
  | succ i=>
   have h:r[i]?=some (k,v):=by simpa using h
   have hm:k∈r.map (·.1):=aaH.mpr ⟨_,VI h,rfl⟩
   rw[jg (fun z=>nd.1 (by rw[z];exact hm))]
   exact JC nd.2 h
theorem JD{κ:Type}[DecidableEq κ](kvs:List (κ×V))(k j:κ)(h:j≠k):iO (jX kvs k) j=iO kvs j:=by
 induction kvs with
 | nil=>rfl
 | cons p r ih=>
  by_cases e:p.1=k
  ·rw[wb e,ih,jg (fun z=>h (z.symm.trans e))]
  ·rw[wc e]
   by_cases e2:p.1=j
   ·rw[jm e2,jm e2]
   ·rw[jg e2,jg e2,ih]
theorem Ht{kvs:List (List Key×V)}{rem:List Ln}{n:Nm}(h:kvs.map (·.1)=rem.map fun l=>nk l.nm):(jX kvs (nk n)).map (·.1)=(rem.filter fun o=>o.nm≠n).map fun l=>nk l.nm:=by
 induction kvs generalizing rem with
 | nil=>cases rem with|nil=>rfl|cons _ _=>cases h
 | cons p r ih=>
  cases rem with
  | nil=>cases h
  | cons x t=>
   rw[aaw,aaw] at h
   injection h with h1 h2
   by_cases e:x.nm=n
   ·rw[wb (by rw[h1,e]),aaj (by simpa using e)]
    exact ih h2
   ·rw[wc (fun z=>e (o7 (h1.symm.trans z))),XZ (by simpa using e),aaw,aaw,ih h2,h1]
structure Wait(kw:List (List Key×V))(rem:List Ln)(f:Ln→Nat):Prop where
 keys:kw.map (·.1)=rem.map fun l=>nk l.nm
 val:∀o∈rem,iO kw (nk o.nm)=some (.int (f o:Nat))
theorem Wait.len{kw:List (List Key×V)}{rem:List Ln}{f:Ln→Nat}(w:Wait kw rem f):kw.length=rem.length:=by
 have:=aa5 List.length w.keys
 rwa [RK,RK] at this
theorem N1{rem:List Ln}:(rem.map fun l=>nk l.nm)=(rem.map (·.nm)).map nk:=by rw[List.map_map];rfl
theorem QN{xs:List Nm}(h:xs.Nodup):(xs.map nk).Nodup:=by
 induction xs with
 | nil=>exact abb
 | cons x r ih=>
  rw[aaX] at h
  rw[aaw,aaX]
  exact⟨fun z=>h.1 (sh.mp z),ih h.2⟩
theorem Wait.nd{kw:List (List Key×V)}{rem:List Ln}{f:Ln→Nat}(w:Wait kw rem f)(h:(rem.map (·.nm)).Nodup):(kw.map (·.1)).Nodup:=by rw[w.keys,N1];exact QN h
theorem Wait.get{kw:List (List Key×V)}{rem:List Ln}{f:Ln→Nat}(w:Wait kw rem f)(h:(rem.map (·.nm)).Nodup){i:Nat}{k:List Key}{v:V}(hi:kw[i]?=some (k,v)):∃o,rem[i]?=some o∧k=nk o.nm∧v=.int (f o:Nat):=by
 have h1:(kw.map (·.1))[i]?=some k:=by rw[aak,hi];rfl
 rw[w.keys,aak] at h1
 obtain⟨o,e,e2⟩:=aaF.mp h1
 refine⟨o,e,e2.symm,?_⟩
 have h2:=JC (w.nd h) hi
 rw[←e2,w.val o (VI e)] at h2
 exact(aaD h2).symm
def U3:Sp:=fun vs H Q _=>∃(d:Addr)(kw:List (List Key×V))(rem:List Ln)(f:Ln→Nat)(l:Ln),vs=[.ref d]∧H d=some (.dT kw)∧Wait kw rem f∧(rem.map (·.nm)).Nodup∧rem.find? (fun o=>f o ==0)=some l∧∀t,H t=some (nT l.nm)→Q (.ref t) H
theorem AM(T:Txt mg)(O:Ok K mg A):ik P w K mg base mT 1 A.vg A.vj ["waiting"] U3:=by
 refine O.zF.f.q0 tF fun jx A0 outer s H vs Q E hr h=>?_
 obtain⟨d,kw,rem,f,l,rfl,hd,W,nd,hf,q⟩:=h
 refine⟨_,(de (sJ (iC aar rfl (ze (pv 0)) (rm 1 tF) (fO (iE (ip mD (xp hr (pv 0) (pv 1)) f_ (iN _)) (fO (h_ (pv 1))) ia))))
   (fO (h_ tW))),?_⟩
 refine HW ?_;intro _
 refine⟨_,rfl,d,kw,rfl,hd,fun o uz=>?_⟩
 let Jv:=fun(i:Nat) (σ:St) (H2:Hp)=>∃(v:Option V),σ=[rr d,v]∧H2=L2.upd H d (.mQ o (.dT kw))∧(rem.drop i).find? (fun o=>f o ==0)=some l
 refine Bh (d:=d) (o:=o) (kvs:=kw) Jv ⟨none,rfl,rfl,hf⟩ (by rintro _ _ _ ⟨_,_,e,_⟩;subst e;exact b_) ?_ ?_
 ·rintro i k v t σ H2 hi ht ⟨v0,rfl,rfl,h1⟩
  obtain⟨x,hx,rfl,rfl⟩:=W.get nd hi
  have lq:i<rem.length:=(RO.mp hx).1
  have hdr:rem.drop i=x::rem.drop (i+1):=by rw[aaT lq];congr 1;exact(RO.mp hx).2
  rw[hdr] at h1
  refine⟨_,rfl,_,rfl,d,_,rfl,.inr ⟨kw,nk x.nm,t,.inr ⟨o,b_⟩,rfl,ht,(W.val x (VI hx)).symm⟩,rfl,_,rfl,?_⟩
  refine kI (fun h=>?_) (fun h=>?_)
  ·have h:f x=0:=by have:=V.int.inj (aaB h);omega
   rw[List.find?_cons_of_pos (by simpa using h)] at h1
   cases h1
   refine⟨_,rfl,d,o,_,b_,uz,?_⟩
   rw[sL hd]
   exact q t (by
    have:t≠d:=fun z=>by rw[z,b_] at ht;cases ht
    rwa [d_ this] at ht)
  ·have h:¬f x=0:=fun z=>h (XU (by rw[z];rfl))
   rw[List.find?_cons_of_neg (by simpa using h)] at h1
   exact⟨_,rfl,rfl,h1⟩
 ·rintro σ H2 ⟨v0,rfl,rfl,h1⟩
  rw[W.len,acj] at h1
  cases h1
end
section
open Classical
noncomputable def ox(lt:Nm→Nm→Prop)(rem:List Ln)(l:Ln):Nat:=(rem.filter fun o=>decide (lt o.nm l.nm)).length
theorem JE(lt:Nm→Nm→Prop)(rem:List Ln):(fun o=>ox lt rem o ==0)=free lt rem:=by
 funext o
 unfold ox free
 rw[abA,ab3,aaO,List.filter_eq_nil_iff,decide_eq_true_iff]
 exact⟨fun h x hx=>by simpa using h x hx,fun h x hx=>by simpa using h x hx⟩
theorem JF{lt:Nm→Nm→Prop}{rem:List Ln}(nd:(rem.map (·.nm)).Nodup){l:Ln}(hl:l∈rem)(o:Ln):ox lt rem o=ox lt (rem.filter fun x=>x.nm≠l.nm) o+if lt l.nm o.nm then 1 else 0:=by
 unfold ox
 induction rem with
 | nil=>cases hl
 | cons x r ih=>
  rw[aaw,aaX] at nd
  rcases XW.mp hl with rfl|hl
  ·have e:r.filter (fun x=>decide (x.nm≠l.nm))=r:=List.filter_eq_self.mpr fun y hy=>XU fun z=>nd.1 (z▸aaa hy)
   rw[aaj (p:=fun x:Ln=>decide (x.nm≠l.nm)) (by simp),e]
   by_cases h:lt l.nm o.nm
   ·rw[XZ (by simpa using h),aas h,aae]
   ·rw[aaj (by simpa using h),aan h,Nat.add_zero]
  ·have hx:x.nm≠l.nm:=fun z=>nd.1 (z▸aaa hl)
   rw[XZ (p:=fun x:Ln=>decide (x.nm≠l.nm)) (by simpa using hx)]
   by_cases h:lt x.nm o.nm
   ·rw[XZ (by simpa using h),XZ (by simpa using h),aae,aae,ih nd.2 hl];omega
   ·rw[aaj (by simpa using h),aaj (by simpa using h),ih nd.2 hl]
end
theorem JG{lt:Nm→Nm→Prop}{n:Nat}{rem:List Ln}{l:Ln}(h:rem.find? (free lt rem)=some l):tD lt (n+1) rem=l::tD lt n (rem.filter fun o=>o.nm≠l.nm):=by
 rw[tD,h]
section
variable{P:Program}{w:World}{K:Qqy}{mg:Qqx}{base:Heap}{A:Ad}
def QO(A:Ad):Sp:=fun vs H Q _=>∃(a h:Addr)(ls al:List Ln),vs=[.ref a,.ref h]∧qv A H a ls∧Cn H h al∧wN ls.length∧(ls.map (·.nm)).Nodup∧(∀l∈ls,l.nm∈al.map (·.nm))∧Jn al∧
 ∀p H',gg H H'→H p=none→qv A H' p (rowOf (Ah al) ls)→Q (.ref p) H'
theorem Hu(T:Txt mg)(O:Ok K mg A):ik P w K mg base mT 2 A.D5 A.D6 ["lines","ahead"] (QO A):=by
 have CI:=@AM P w K mg base A T O
 refine O.Jx.f.q0 lA fun jx A0 outer s H vs Q E hr h=>?_
 obtain⟨a,h,ls,al,rfl,⟨as,ha,pa⟩,⟨kh,RZ,YK⟩,jQ,nd,yu,tp,q⟩:=h
 have hlen:=aao pa
 have yw:ls.length≤4000:=jQ
 have sz:sizeLine=16777216:=aaC
 have tpl:∃rk:Nm→Nat,∀m n,Ah al m n→rk m<rk n:=by obtain⟨rk,r⟩:=tp;exact⟨rk,fun m n z=>r.ah z⟩
 refine⟨_,(de (kX 2 lA mF)
   (de (kX 3 lA mF)
   (de (iC aar rfl (ie (pv 0)) (iy (i:=4) lA.nd rfl (Or.inr rfl)) (de (jc (by exact iI hr) (pv 2) (gq (pv 4) rfl) (pv 4) rfl)
   (fO (jc (by exact iI hr) (pv 3) (gq (pv 4) rfl) (hZ gn (by rfl) T.jP aay (a_ (p3 DS (fZ uZ).names [7] rfl (ie (pv 0)) rfl (by decide+kernel) (fun _ _ _ _=>(iy (i:=7) lA.nd rfl (Or.inl rfl))) (fun _ _ _ _=>⟨_,l_ (i7 (mS (by exact iI hr) (gq (pv 7) rfl) (xp hr (pv 1) (gq (pv 4) rfl)))),by(try simp only [j6]);rfl⟩) (fun _ _ _ _=>yG (pv 7))) e_)) rfl))))
   (de (kX 5 lA (i8 e_))
   (de (Dd aar (Hh (pv 3) (fun _=>rfl)) (de (kX 6 lA (rl O.zF CI hr (a_ (pv 3) e_)))
   (de (hG (Ji (by exact iI hr) (pv 3) (pv 6) ⟨rfl,rfl,rfl,rfl⟩))
   (de (hG (oA aaJ aaQ aaR jW (pv 5) (a_ (xp hr (pv 2) (pv 6)) e_)))
   (fO (iC aar rfl (ie (sG (yh rfl) (by rfl) T.wK abM (a_ (pv 3) e_))) (rm 7 lA) (fO (iE (i7 (mS (by exact iI hr) (pv 6) (xp hr (pv 1) (pv 7)))) (fO (jc (by exact iI hr) (pv 3) (pv 7) (gm BK (xp hr (pv 3) (pv 7)) f_) rfl)) ia))))))))
   (fO (h_ (pv 5)))))))),?_⟩
 refine Qy ?_;intro _ _ _ _ _
 intro bn R0 wt PZ
 have s1:gg H (L2.upd (L2.upd H bn (.dT [])) wt (.dT [])):=((gg.refl H).new R0).new PZ
 have OY:H wt=none:=((gg.refl H).new (o:=.dT []) R0).free PZ
 have R1:bn≠wt:=fun z=>by rw[z,b_] at PZ;cases PZ
 dsimp only [l6];refine IV ?_;intro _
 let Jv:=fun(i:Nat) (σ:St) (H2:Hp)=>∃(v4:Option V)(kb kw:List (List Key×V)),σ=[rr a,rr h,rr bn,rr wt,v4,none,none,none]∧gg H H2∧H2 bn=some (.dT kb)∧H2 wt=some (.dT kw)∧kb.length≤i∧(∀l∈ls.take i,∃b,iO kb (nk l.nm)=some (.ref b)∧nu A H b l)∧Wait kw (ls.take i) (ox (Ah al) ls)
 refine⟨_,rfl,a,rfl,⟨_,hV.of (s1 _ _ ha)⟩,iQ (K:=K) (a:=a) (xs:=as.map V.ref) Jv
  ⟨none,[],[],rfl,s1,by rw[d_ R1];exact b_,b_,U0 _,(fun l hl=>by rw[abz] at hl;cases hl),⟨rfl,(fun l hl=>by rw[abz] at hl;cases hl)⟩⟩ (by rintro _ _ _ _ ⟨_,_,_,_,s3,_⟩;exact hV.of (s3 _ _ ha)) ?_ ?_⟩
 ·rintro i v σ H2 hx ⟨v4,kb,kw,rfl,s3,h1,h2,h3,h4,W⟩
  obtain⟨b,hb,rfl⟩:=j_ hx
  obtain⟨l,hl,dx,vn,vu,vl,g1,⟨t,rfl,g2⟩,g3,g4⟩:=ir pa hb
  have Tx:l∈ls:=VI hl
  have hi:i<ls.length:=(RO.mp hl).1
  have z_:∀x∈ls.take i,x.nm≠l.nm:=fun x hx z=>by
   obtain⟨j,hj⟩:=aaP.mp hx
   have FR:j<i:=by have:=(RO.mp hj).1;rw[aap] at this;omega
   rw[abD,aas FR] at hj
   have e1:(ls.map (·.nm))[j]?=some l.nm:=by rw[aak,hj,←z];rfl
   have e2:(ls.map (·.nm))[i]?=some l.nm:=by rw[aak,hl];rfl
   have:=(abJ (RO.mp e1).1 nd).mp (e1.trans e2.symm)
   omega
  obtain⟨bb,dk,z1,z2,z3⟩:=YK l.nm (yu l Tx)
  have VG:=ju kb (nk l.nm) (V.ref b)
  refine⟨_,rfl,_,rfl,_,rfl,b,A.g_,dx,_,_,rfl,s3 _ _ g1,O.iG,O.hE,i0,bn,_,rfl,l9.t (k:=nk l.nm) h1 (s3 _ _ g2) (by omega),?_⟩
  have s4:gg H (L2.upd H2 bn (.dT (putK kb (nk l.nm) (V.ref b)))):=s3.upd R0
  have LR:L2.upd H2 bn (.dT (putK kb (nk l.nm) (V.ref b))) bn=some (.dT (putK kb (nk l.nm) (V.ref b))):=b_
  have YL:L2.upd H2 bn (.dT (putK kb (nk l.nm) (V.ref b))) wt=some (.dT kw):=by rw[d_ R1.symm];exact h2
  generalize L2.upd H2 bn (.dT (putK kb (nk l.nm) (V.ref b)))=H3 at s4 LR YL ⊢
  refine⟨_,rfl,a,rfl,⟨_,hV.of (s4 _ _ ha)⟩,jE (K:=K) (a:=a) (xs:=as.map V.ref) (by rw[RK,hlen];omega) (fun j ys σ H4=>∃v7:Option V,σ=[rr a,rr h,rr bn,rr wt,rr b,none,none,v7]∧H4=H3∧ys.length=ox (Ah al) (ls.take j) l)
   ⟨none,rfl,rfl,rfl⟩ (by rintro _ _ _ _ _ ⟨_,_,e,e2⟩;subst e;exact⟨hV.of (s4 _ _ ha),by rw[e2];unfold ox;exact aad (aaI _ _) (by rw[aap];omega)⟩) ?_ ?_⟩
  ·rintro j v ys σ H4 hx ⟨v7,rfl,rfl,e2⟩
   obtain⟨b2,OZ,rfl⟩:=j_ hx
   obtain⟨l2,HK,dx2,vn2,vu2,vl2,k1,⟨t2,rfl,k2⟩,k3,k4⟩:=ir pa OZ
   refine⟨_,rfl,b2,A.g_,dx2,_,_,rfl,s4 _ _ k1,O.iG,O.hE,i0,_,rfl,_,rfl,b,A.g_,dx,_,_,rfl,s4 _ _ g1,O.iG,O.hE,i0,h,.ref bb,rfl,?_,bb,_,rfl,iT.t (k:=nk l2.nm) (s4 _ _ z2) (s4 _ _ k2),_,rfl,?_⟩
   ·have:=iT.t (k:=nk l.nm) (s4 _ _ RZ) (s4 _ _ g2)
    rw[z1] at this
    exact this
   ·unfold ox at e2 ⊢
    rw[take_snoc HK,aaM,UZ]
    by_cases hm:Ah al l2.nm l.nm
    ·rw[(z3 l2.nm).mpr hm]
     refine mG ⟨_,rfl,_,rfl,rfl,?_⟩
     rw[XZ (by simpa using hm),aaU,UZ,e2];rfl
    ·rw[abc.mpr fun z=>hm ((z3 l2.nm).mp z)]
     refine kA ⟨_,rfl,rfl,?_⟩
     rw[aaj (by simpa using hm),aaU,e2];rfl
  ·rintro ys σ H4 ⟨v7,rfl,rfl,e2⟩ p hp
   rw[RK,hlen,aaf] at e2
   have s5:=s4.new (o:=.lst ys) hp
   have Mx:=W.len
   rw[aap] at Mx
   refine⟨p,_,rfl,.inl (hV.of b_),_,rfl,_,rfl,b,A.g_,dx,_,_,rfl,s5 _ _ g1,O.iG,O.hE,i0,wt,_,rfl,l9.t (k:=nk l.nm) (ix hp YL) (s5 _ _ g2) (by omega),?_⟩
   refine⟨_,_,_,rfl,s5.upd OY,by rw[d_ R1];exact ix hp LR,b_,by omega,fun x hx=>?_,⟨?_,fun x hx=>?_⟩⟩
   ·rw[take_snoc hl] at hx
    rcases XX.mp hx with hx|hx
    ·obtain⟨c,c1,c2⟩:=h4 x hx
     exact⟨c,by rw[jY,aan (fun z=>z_ x hx (o7 z))];exact c1,c2⟩
    ·rw[US.mp hx]
     exact⟨b,by rw[jY,aas rfl],dx,_,vu,vl,g1,⟨t,rfl,g2⟩,g3,g4⟩
   ·rw[pX,W.keys,take_snoc hl,aau]
    exact aan fun z=>by
     obtain⟨x,hx,e⟩:=aaH.mp z
     exact z_ x hx (o7 e)
   ·rw[take_snoc hl] at hx
    rw[jY]
    rcases XX.mp hx with hx|hx
    ·rw[aan (fun z=>z_ x hx (o7 z))];exact W.val x hx
    ·rw[US.mp hx,aas rfl,e2]
 ·rintro σ H2 ⟨v4,kb,kw,rfl,s3,h1,h2,h3,h4,W⟩
  have el:(as.map V.ref).length=ls.length:=by rw[RK];exact hlen
  rw[el,aaf] at h4 W
  refine⟨L2.jQ,fun r qB=>?_⟩
  have YM:H r=none:=s3.free qB
  have hrb:bn≠r:=gb h1 qB
  have R3:wt≠r:=gb h2 qB
  obtain⟨rk,OS⟩:=tpl
  refine⟨fun m σ H3=>∃(v6 v7:Option V)(kw:List (List Key×V))(rem row:List Ln)(rs:List Addr),m=rem.length∧σ=[rr a,rr h,rr bn,rr wt,v4,rr r,v6,v7]∧gg H H3∧H3 bn=some (.dT kb)∧H3 wt=some (.dT kw)∧H3 r=some (.lst (rs.map V.ref))∧Paired (nu A H) rs row∧Wait kw rem (ox (Ah al) rem)∧rem.Sublist ls∧row.length+rem.length=ls.length∧row++tD (Ah al) rem.length rem=rowOf (Ah al) ls,
   ⟨ls.length,none,none,kw,ls,[],[],rfl,rfl,s3.new qB,ix qB h1,ix qB h2,b_,.nil,W,aaG _,by simp,rfl⟩,?_⟩
  rintro m σ H3 ⟨v6,v7,kw,rem,row,rs,rfl,rfl,s4,b1,w1,r1,pr,W,sub,hsum,Ew⟩
  have Tz:(rem.map (·.nm)).Nodup:=(sub.map _).nodup nd
  refine⟨_,rfl,wt,kw,rfl,w1,?_⟩
  have Mx:=W.len
  cases rem with
  | nil=>
   have:kw=[]:=aaO.mp Mx
   subst this
   refine kA ⟨_,rfl,q r _ s4 YM ⟨rs,r1,?_⟩⟩
   rw[show tD (Ah al) ([]:List Ln).length []=[] from rfl,aaN] at Ew
   rw[←Ew]
   exact Paired.kS pr fun _ _ z=>z.same s4
  | cons x0 V4=>
   generalize V5:x0::V4=rem at *
   have qA:rem≠[]:=by rw[←V5];exact fun z=>by cases z
   obtain⟨l,Kb⟩:=xr (lt:=Ah al) OS rem qA
   have O0:l∈rem:=List.mem_of_find?_eq_some Kb
   have TB:l∈ls:=sub.subset O0
   have MF:=pC Tz O0
   refine DC (by cases kw with|nil=>exact absurd (aaO.mp Mx.symm) qA|cons _ _=>rfl) ?_
   refine⟨fun σ H4=>∃(v6 v7:Option V)(kw:List (List Key×V))(l5 row:List Ln)(rs:List Addr),l5.length<rem.length∧σ=[rr a,rr h,rr bn,rr wt,v4,rr r,v6,v7]∧gg H H4∧H4 bn=some (.dT kb)∧H4 wt=some (.dT kw)∧H4 r=some (.lst (rs.map V.ref))∧Paired (nu A H) rs row∧Wait kw l5 (ox (Ah al) l5)∧l5.Sublist ls∧row.length+l5.length=ls.length∧row++tD (Ah al) l5.length l5=rowOf (Ah al) ls,
    fun σ' H' ⟨u6,u7,R4,l5,V6,rs2,lq,z⟩=>⟨l5.length,lq,u6,u7,R4,l5,V6,rs2,rfl,z⟩,?_⟩
   refine⟨_,rfl,wt,kw,rem,ox (Ah al) rem,l,rfl,w1,W,Tz,by rw[JE];exact Kb,fun t ht=>?_⟩
   have CH:=W.val l O0
   refine⟨_,rfl,wt,rfl,.inr ⟨_,.inl w1⟩,_,rfl,t,kw,nk l.nm,_,rfl,w1,ht,CH,?_⟩
   have s5:gg H (L2.upd H3 wt (.dT (jX kw (nk l.nm)))):=s4.upd OY
   have b2:L2.upd H3 wt (.dT (jX kw (nk l.nm))) bn=some (.dT kb):=by rw[d_ R1];exact b1
   have r2:L2.upd H3 wt (.dT (jX kw (nk l.nm))) r=some (.lst (rs.map V.ref)):=by rw[d_ R3.symm];exact r1
   have t2:L2.upd H3 wt (.dT (jX kw (nk l.nm))) t=some (nT l.nm):=by rw[d_ (i9 ht w1 (fun z=>by cases z))];exact ht
   have w2:L2.upd H3 wt (.dT (jX kw (nk l.nm))) wt=some (.dT (jX kw (nk l.nm))):=b_
   have W2:Wait (jX kw (nk l.nm)) (rem.filter fun o=>o.nm≠l.nm) (ox (Ah al) rem):=⟨Ht W.keys,fun o ho=>by
    have om:=aaq.mp ho
    rw[JD _ _ _ (fun z=>by have:=o7 z;simpa[this] using om.2)]
    exact W.val o om.1⟩
   generalize L2.upd H3 wt (.dT (jX kw (nk l.nm)))=H4 at s5 b2 r2 t2 w2 ⊢
   generalize jX kw (nk l.nm)=R4 at w2 W2
   obtain⟨bl,Mz,hLn⟩:=h4 l TB
   have V7:=aao pr
   refine⟨_,rfl,.inl ⟨rfl,_,hV.of r2⟩,_,rfl,_,rfl,bn,.ref bl,rfl,?_,r,_,_,rfl,rfl,r2,by rw[RK,V7];omega,?_⟩
   ·have:=iT.t (k:=nk l.nm) b2 t2
    rw[Mz] at this
    exact this
   have s6:gg H (L2.upd H4 r (.lst (rs.map V.ref++[V.ref bl]))):=s5.upd YM
   have b3:L2.upd H4 r (.lst (rs.map V.ref++[V.ref bl])) bn=some (.dT kb):=by rw[d_ hrb];exact b2
   have w3:L2.upd H4 r (.lst (rs.map V.ref++[V.ref bl])) wt=some (.dT R4):=by rw[d_ R3];exact w2
   have t3:L2.upd H4 r (.lst (rs.map V.ref++[V.ref bl])) t=some (nT l.nm):=by rw[d_ (i9 t2 r2 (fun z=>by cases z))];exact t2
   have r3:L2.upd H4 r (.lst (rs.map V.ref++[V.ref bl])) r=some (.lst ((rs++[bl]).map V.ref)):=by rw[b_,aau];rfl
   generalize L2.upd H4 r (.lst (rs.map V.ref++[V.ref bl]))=H5 at s6 b3 w3 t3 r3 ⊢
   have GV:(rem.filter fun o=>o.nm≠l.nm).Sublist rem:=aaV
   generalize hR:(rem.filter fun o=>decide (o.nm≠l.nm))=l5 at W2 GV MF
   have R5:(l5.map (·.nm)).Nodup:=(GV.map _).nodup Tz
   refine⟨_,rfl,wt,R4,rfl,w3,fun p bs hp YN=>?_⟩
   have s7:=s6.new (o:=.lst (bs.map V.ref)) hp
   have V8:=aao YN
   have Ry:=W2.len
   let Jv:=fun(j:Nat) (σ:St) (H6:Hp)=>∃(v7:Option V)(Kc:List (List Key×V)),σ=[rr a,rr h,rr bn,rr wt,v4,rr r,rr t,v7]∧gg H H6∧H6 bn=some (.dT kb)∧H6 wt=some (.dT Kc)∧H6 t=some (nT l.nm)∧H6 r=some (.lst ((rs++[bl]).map V.ref))∧H6 p=some (.lst (bs.map V.ref))∧(∀b∈bs,∀xs,H5 b=some (.tup xs)→H6 b=some (.tup xs))∧Kc.map (·.1)=l5.map (fun l=>nk l.nm)∧∀(i:Nat)(o:Ln),l5[i]?=some o→iO Kc (nk o.nm)=some (.int ((if i<j then ox (Ah al) l5 o else ox (Ah al) rem o:Nat):Int))
   refine⟨p,rfl,⟨_,hV.of b_⟩,iQ (K:=K) (a:=p) (xs:=bs.map V.ref) Jv
    ⟨v7,R4,rfl,s7,ix hp b3,ix hp w3,ix hp t3,ix hp r3,b_,fun b _ xs e=>ix hp e,W2.keys,fun i o ho=>by rw[aan (by omega)];exact W2.val o (VI ho)⟩ (by rintro _ _ _ _ ⟨_,_,_,_,_,_,_,_,e,_⟩;exact hV.of e) ?_ ?_⟩
   ·rintro j v σ H6 hx ⟨v7,Kc,rfl,s8,b4,w4,t4,r4,p4,L3,BF,Kd⟩
    obtain⟨c,hc,rfl⟩:=j_ hx
    obtain⟨⟨k,v⟩,V9,V_⟩:=mK YN hc
    obtain⟨o,ho,rfl,rfl⟩:=W2.get R5 V9
    have O1:o∈rem:=GV.subset (VI ho)
    have Wa:H6 c=some (nT o.nm):=L3 c (VI hc) _ V_
    obtain⟨bb,dk,z1,z2,z3⟩:=YK o.nm (yu o (sub.subset O1))
    have BE:=JF (lt:=Ah al) Tz O0 o
    have YO:∀(R6:List (List Key×V)),R6.map (·.1)=l5.map (fun l=>nk l.nm)→(∀x∈l5,x.nm≠o.nm→iO R6 (nk x.nm)=iO Kc (nk x.nm))→iO R6 (nk o.nm)=some (.int ((ox (Ah al) l5 o:Nat):Int))→∀(i:Nat)(x:Ln),l5[i]?=some x→iO R6 (nk x.nm)=some (.int ((if i<j+1 then ox (Ah al) l5 x else ox (Ah al) rem x:Nat):Int)):=fun R6 _ h1 h2 i x R7=>by
     by_cases e:i=j
     ·subst e
      rw[ho] at R7
      cases R7
      rw[aas (ach _)]
      exact h2
     ·have Wb:x.nm≠o.nm:=fun z=>by
       have e1:(l5.map (·.nm))[i]?=some o.nm:=by rw[aak,R7,←z];rfl
       have e2:(l5.map (·.nm))[j]?=some o.nm:=by rw[aak,ho];rfl
       exact e ((abJ (RO.mp e1).1 R5).mp (e1.trans e2.symm))
      rw[h1 x (VI R7) Wb,Kd i x R7]
      by_cases VM:i<j
      ·rw[aas VM,aas (by omega)]
      ·rw[aan VM,aan (by omega)]
    rw[hR] at BE
    refine⟨_,rfl,_,rfl,_,rfl,h,.ref bb,rfl,?_,bb,_,rfl,iT.t (k:=nk l.nm) (s8 _ _ z2) t4,_,rfl,?_⟩
    ·have:=iT.t (k:=nk o.nm) (s8 _ _ RZ) Wa
     rw[z1] at this
     exact this
    by_cases hm:Ah al l.nm o.nm
    ·rw[(z3 l.nm).mpr hm]
     rw[aas hm] at BE
     refine mG ?_
     have R8:=Kd j o ho
     rw[aan (abm _)] at R8
     have hg:iT H6 wt (.ref c) (some (.int ((ox (Ah al) rem o:Nat):Int))):=by
      have:=iT.t (k:=nk o.nm) w4 Wa
      rw[R8] at this
      exact this
     have hk3:Kc.length=l5.length:=by have:=aa5 List.length BF;rwa [RK,RK] at this
     refine⟨_,rfl,_,rfl,wt,_,rfl,hg,_,_,rfl,rfl,_,rfl,_,rfl,wt,_,rfl,l9.t (k:=nk o.nm) w4 Wa (by omega),?_⟩
     have kk:(putK Kc (nk o.nm) (V.int ((ox (Ah al) rem o:Nat)-1))).map (·.1)=l5.map (fun l=>nk l.nm):=by
      rw[pX,BF]
      exact aas (aaH.mpr ⟨o,VI ho,rfl⟩)
     refine⟨_,_,rfl,s8.upd OY,by rw[d_ R1];exact b4,b_,by rw[d_ (i9 t4 w4 (fun z=>by cases z))];exact t4,by rw[d_ R3.symm];exact r4,by rw[d_ (i9 p4 w4 (fun z=>by cases z))];exact p4,fun b hb xs e=>?_,kk,YO _ kk (fun x _ Wb=>?_) ?_⟩
     ·have:=L3 b hb xs e
      rw[d_ (i9 this w4 (fun z=>by cases z))];exact this
     ·rw[jY,aan (fun z=>Wb (o7 z))]
     ·rw[jY,aas rfl]
      have e9:((ox (Ah al) rem o:Nat):Int)-1=((ox (Ah al) l5 o:Nat):Int):=by omega
      exact aa5 (fun z=>some (V.int z)) e9
    ·rw[abc.mpr fun z=>hm ((z3 l.nm).mp z)]
     rw[aan hm] at BE
     refine kA ⟨_,Kc,rfl,s8,b4,w4,t4,r4,p4,L3,BF,YO Kc BF (fun x _ _=>rfl) ?_⟩
     have R8:=Kd j o ho
     rw[aan (abm _)] at R8
     rw[R8,BE,Nat.add_zero]
   ·rintro σ H6 ⟨v7,Kc,rfl,s8,b4,w4,t4,r4,p4,L3,BF,Kd⟩
    have hlen2:(bs.map V.ref).length=l5.length:=by rw[RK,←V8,Ry]
    refine⟨_,_,Kc,l5,row++[l],rs++[bl],by omega,rfl,s8,b4,w4,r4,iD pr hLn,⟨BF,fun o ho=>?_⟩,GV.trans sub,by rw[UZ];show row.length+1+l5.length=_;omega,?_⟩
    ·obtain⟨i,hi⟩:=aaP.mp ho
     have PQ:=(RO.mp hi).1
     rw[Kd i o hi,aas (by omega)]
    ·rw[←Ew,←MF,JG Kb,aaS,hR]
     rfl
end
end PK
namespace Kp
open PySem L2
noncomputable abbrev S6:Stmt:=PK.o5
noncomputable abbrev S7:Stmt:=PK.qf
noncomputable abbrev U4:Stmt:=PK.qg
noncomputable abbrev Mo:Stmt:=PK.Fx
structure Txt(mg:Qqx):Prop where
 len:mg "len"=none
 range:mg "range"=none
 max:mg "max"=none
noncomputable abbrev gh(l:List Str):List V:=l.map V.str
noncomputable def tab(old new:List Str)(i:Nat):List V:=(List.range (new.length+1)).map fun j=>V.int (K01.wu old new i j)
theorem Cp{old new:List Str}{i j:Nat}(h:j≤new.length):(tab old new i)[j]?=some (V.int (K01.wu old new i j)):=by
 unfold tab
 rw[aak,List.getElem?_range (by omega)]
 rfl
noncomputable def part(old new:List Str)(i k:Nat):List V:=(List.range (new.length+1)).map fun j=>if new.length-k≤j then V.int (K01.wu old new i j) else V.int 0
theorem GD{old new:List Str}{i k j:Nat}(h:j≤new.length)(hk:new.length-k≤j):(part old new i k)[j]?=some (V.int (K01.wu old new i j)):=by
 unfold part
 rw[aak,List.getElem?_range (by omega)]
 show some (if _ then _ else _)=_
 rw[aas hk]
theorem zL(old new:List Str)(i k:Nat):(part old new i k).length=new.length+1:=by unfold part;rw[RK,acf]
theorem JH(old new:List Str)(i:Nat):part old new i new.length=tab old new i:=by
 unfold part tab
 refine ab0 fun j _=>?_
 rw[aas (by omega)]
theorem Bw(old new:List Str)(i n:Nat)(h:n=new.length+1):(List.replicate n [V.int 0]).flatten=part old new i 0:=by
 subst h
 refine List.ext_getElem? fun j=>?_
 unfold part
 rw[aak]
 have e:(List.replicate (new.length+1) [V.int 0]).flatten=List.replicate (new.length+1) (V.int 0):=by
  generalize new.length+1=m
  induction m with
  | zero=>rfl
  | succ m ih=>rw[aba,abX,ih,aba];rfl
 rw[e,List.getElem?_replicate]
 by_cases hj:j<new.length+1
 ·rw[aas hj,List.getElem?_range hj]
  show some _=some (if _ then _ else _)
  by_cases h2:new.length-0≤j
  ·rw[aas h2,K01.yH (.inr (by omega))];rfl
  ·rw[aan h2]
 ·rw[aan hj,aby.mpr (by rw[acf];omega)]
  rfl
theorem Eh{old new:List Str}{i k:Nat}(h:k<new.length):(part old new i k).set (new.length-1-k) (V.int (K01.wu old new i (new.length-1-k)))=part old new i (k+1):=by
 refine List.ext_getElem? fun j=>?_
 by_cases e:j=new.length-1-k
 ·subst e
  rw[abg (by rw[zL];omega),GD (by omega) (by omega)]
 ·rw[abo (fun z=>e z.symm)]
  unfold part
  rw[aak,aak]
  by_cases hj:j<new.length+1
  ·rw[List.getElem?_range hj]
   show some (if _ then _ else _)=some (if _ then _ else _)
   by_cases h2:new.length-k≤j
   ·rw[aas h2,aas (by omega)]
   ·rw[aan h2,aan (by omega)]
  ·rw[aby.mpr (by rw[acf];omega)]
   rfl
theorem oF{l:List Str}{j:Nat}{x:Str}(h:l[j]?=some x):(gh l)[j]?=some (V.str x):=by rw[aak,h];rfl
section
variable{P:Program}{w:World}{K:Qqy}{mg:Qqx}{base:Heap}
theorem N3:gv ["text","new","below","counts","second"] ["text","new","below"] (fZ S6):=⟨rfl,rfl,rfl,by decide+kernel,rfl,by decide+kernel,by decide+kernel⟩
def QP:Sp:=fun vs H Q _=>∃(old new:List Str)(i:Nat)(t:Str)(n b:Addr),vs=[.str t,.ref n,.ref b]∧old[i]?=some t∧H n=some (.lst (gh new))∧H b=some (.lst (tab old new (i+1)))∧new.length≤1000∧
 ∀p H',gg H H'→H p=none→H' p=some (.lst (tab old new i))→Q (.ref p) H'
theorem QQ{f:Addr}{fd:FuncData}(F:xl K "counts_with" "counts_with" S6 f fd)(T:Txt mg):ik P w K mg base mT 1 f fd ["text","new","below"] QP:=by
 refine F.q0 N3 fun jx A outer s H vs Q E hr h=>?_
 obtain⟨old,new,i,t,n,b,rfl,ht,hn,hb,hl,k⟩:=h
 refine⟨_,de (lE (i:=3) N3.nd rfl (Or.inl rfl) (gm Ff (i8 (a_ f_ e_)) (gm iJ (hZ gn (by rfl) T.len aay (a_ (pv 1) e_)) f_)))
  (de (iC aar rfl (we rfl T.range (a_ (gm BK (hZ gn (by rfl) T.len aay (a_ (pv 1) e_)) f_) (a_ (xf ra f_) (a_ (xf ra f_) e_)))) (iy (i:=4) N3.nd rfl (Or.inl rfl))
   (fO (iE (ip mD (jO kF (pv 1) (pv 4) (fun _ _=>rfl)) (pv 0) (iN _))
    (fO (BJ (gm iJ (jO kF (pv 2) (gm iJ (pv 4) f_) (fun _ _=>rfl)) f_) (BI (pv 3) (pv 4) set_list)))
    (fO (BJ (hZ (G1 rfl) (by rfl) T.max PyProof.Rows.boot_max (a_ (jO kF (pv 2) (pv 4) (fun _ _=>rfl)) (a_ (jO kF (pv 3) (gm iJ (pv 4) f_) (fun _ _=>rfl)) e_))) (BI (pv 3) (pv 4) set_list))))))
  (fO (h_ (pv 3)))),?_⟩
 refine EK ?_;intro _ _
 refine⟨jQ,fun l PR=>?_⟩
 have MG:(upd H l (.lst [V.int 0])) n=some (.lst (gh new)):=by rw[d_ (gb hn PR)];exact hn
 refine⟨_,rfl,n,_,rfl,.inl (hV.of MG),_,_,rfl,rfl,l,_,_,rfl,rfl,b_,by simp<;>omega,by simp<;>omega,by simp;have:sizeLine=2 ^ 24:=rfl;omega,fun p hp=>?_⟩
 have o3:p≠l:=fun z=>by rw[z,b_] at hp;cases hp
 have FT:H p=none:=by rw[d_ o3] at hp;exact hp
 have s0:gg H (upd H l (.lst [V.int 0])):=(gg.refl H).upd PR
 have e0:(List.replicate (((gh new).length:Int)+1).toNat [V.int 0]).flatten=part old new i 0:=Bw old new i _ (by simp<;>omega)
 rw[e0]
 have s1:gg H (upd (upd H l (.lst [V.int 0])) p (.lst (part old new i 0))):=s0.upd FT
 refine⟨_,rfl,n,_,rfl,.inl (hV.of (s1 n _ hn)),_,_,rfl,rfl,_,rfl,_,rfl,_,_,rfl,⟨by simp<;>omega,by simp<;>omega,by omega,by omega⟩,?_⟩
 have en:((((gh new).length:Int)-1) - -1).toNat=new.length:=by simp<;>omega
 rw[en]
 let Jv:=fun(m:Nat) (σ:St) (H2:Hp)=>∃v,σ=[rs t,rr n,rr b,rr p,v]∧gg H H2∧H2 p=some (.lst (part old new i m))
 refine t_ Jv ⟨none,rfl,s1,b_⟩ ?_ ?_
 ·rintro m σ H2 hm ⟨v,rfl,s2,h2⟩
  obtain⟨j,hj⟩:∃j,j=new.length-1-m:=⟨_,rfl⟩
  have hjl:j<new.length:=by omega
  rw[show((gh new).length:Int)-1+(m:Int) * -1=(j:Int) by simp<;>omega]
  have O2:new[j]?=some new[j]:=VN hjl
  have B:=K01.Lc ht O2
  refine⟨_,rfl,_,rfl,n,_,_,_,rfl,rfl,hV.of (s2 n _ hn),iF rfl (oF O2),_,rfl,rfl,_,rfl,?_⟩
  refine kI (fun hc=>?_) (fun hc=>?_)
  ·have hc:new[j]=t:=by have:=aaB hc;injection this
   rw[aas hc] at B
   refine⟨_,rfl,_,rfl,_,_,rfl,rfl,b,_,_,_,rfl,rfl,hV.of (s2 b _ hb),iF (j:=j+1) (by omega) (Cp (by omega)),_,_,rfl,rfl,_,rfl,_,rfl,p,_,_,j,rfl,rfl,h2,BX rfl (by rw[zL];omega),?_⟩
   refine⟨_,rfl,s2.upd FT,?_⟩
   rw[b_]
   dsimp only
   have e:((K01.wu old new (i+1) (j+1):Nat):Int)+1=((K01.wu old new i j:Nat):Int):=by omega
   rw[e,hj,Eh hm]
  ·have hc:¬new[j]=t:=fun z=>hc (by rw[z];exact XU rfl)
   rw[aan hc] at B
   refine⟨_,rfl,_,rfl,b,_,_,_,rfl,rfl,hV.of (s2 b _ hb),iF rfl (Cp (by omega)),_,rfl,_,rfl,_,_,rfl,rfl,p,_,_,_,rfl,rfl,hV.of h2,iF (j:=j+1) (by omega) (GD (by omega) (by omega)),_,_,rfl,_,rfl,_,rfl,p,_,_,j,rfl,rfl,h2,BX rfl (by rw[zL];omega),?_⟩
   refine⟨_,rfl,s2.upd FT,?_⟩
   rw[b_]
   have e:(if((K01.wu old new i (j+1):Nat):Int)>((K01.wu old new (i+1) j:Nat):Int) then((K01.wu old new i (j+1):Nat):Int) else((K01.wu old new (i+1) j:Nat):Int))=((K01.wu old new i j:Nat):Int):=by split<;>omega
   rw[e,hj,Eh hm]
 ·rintro σ H2 ⟨v,rfl,s2,h2⟩
  refine⟨_,rfl,k p H2 s2 FT ?_⟩
  rw[h2,JH]
def Mp(H:Hp)(old new:List Str)(rows:List V)(R9:Nat):Prop:=rows.length=old.length+1∧∀i,i≤old.length→∃a,rows[i]?=some (.ref a)∧(R9≤i→H a=some (.lst (tab old new i)))
noncomputable abbrev nMP:List Str:=["old","new","table","first","place"]
theorem Lr:gv ["old","new","table","first","place"] ["old","new"] (fZ S7):=⟨rfl,rfl,rfl,by decide+kernel,rfl,by decide+kernel,by decide+kernel⟩
def QR:Sp:=fun vs H Q _=>∃(old new:List Str)(o n:Addr),vs=[.ref o,.ref n]∧H o=some (.lst (gh old))∧H n=some (.lst (gh new))∧old.length≤1000∧new.length≤1000∧
 ∀p H' rows,gg H H'→H p=none→H' p=some (.lst rows)→Mp H' old new rows 0→Q (.ref p) H'
theorem JI(new:List Str)(n:Nat)(h:n=new.length+1):(List.replicate n [V.int 0]).flatten=tab [] new 0:=by
 rw[Bw [] new 0 n h]
 unfold part tab
 refine ab0 fun j _=>?_
 rw[show K01.wu ([]:List Str) new 0 j=0 from K01.yH (.inl (by simp))]
 split<;>rfl
theorem Ls(old new:List Str)(n:Nat)(h:n=new.length+1):(List.replicate n [V.int 0]).flatten=tab old new old.length:=by
 rw[JI new n h]
 unfold tab
 refine ab0 fun j _=>?_
 rw[show K01.wu ([]:List Str) new 0 j=0 from K01.yH (.inl (by simp)),K01.yH (.inl (U0 _))]
theorem QS{f fC:Addr}{fd P0:FuncData}(F:xl K "most_pairs" "most_pairs" S7 f fd)(T:Txt mg)(C:xl K "counts_with" "counts_with" S6 fC P0)(bC:Binds K P0 ["text","new","below"] [])(mC:mg "counts_with"=some (.ref fC)) :
  ik P w K mg base mT 2 f fd ["old","new"] QR:=by
 have GC:ik P w K mg base mT 1 fC P0 ["text","new","below"] QP:=QQ C T
 refine F.q0 Lr fun jx A outer s H vs Q E hr h=>?_
 obtain⟨old,new,o,n,rfl,ho,hn,Vm,yv,k⟩:=h
 refine⟨_,de (Bf (j:=2) nMP (fZ S7).names [4] Lr.nd rfl rfl rfl (lu rfl T.range (a_ (gm iJ (hZ gn (by rfl) T.len aay (a_ (pv 0) e_)) f_) e_)) rfl (by decide+kernel)
   (fun _ _ _ _=>iy (i:=4) Lr.nd rfl (Or.inl rfl)) (fun _ _ _ _=>mU) (fun _ _ _ _=>⟨_,gm Ff (i8 (a_ f_ e_)) (gm iJ (hZ gn (by rfl) T.len aay (a_ (pv 1) e_)) f_),by(try simp only [j6]);rfl⟩))
  (de (iC aar rfl (we rfl T.range (a_ (gm BK (hZ gn (by rfl) T.len aay (a_ (pv 0) e_)) f_) (a_ (xf ra f_) (a_ (xf ra f_) e_)))) (iy (i:=3) Lr.nd rfl (Or.inl rfl))
   (fO (BJ (uM GC hr rfl mC C.kp bC .nil oC (a_ (jO kF (pv 0) (pv 3) (fun _ _=>rfl)) (a_ (pv 1) (a_ (jO kF (pv 2) (gm iJ (pv 3) f_) (fun _ _=>rfl)) e_)))) (BI (pv 2) (pv 3) set_list))))
  (fO (h_ (pv 2)))),?_⟩
 refine EK ?_;intro _ _
 refine⟨_,rfl,o,_,rfl,.inl (hV.of ho),_,_,rfl,rfl,_,rfl,by simp<;>omega,by simp<;>omega,?_⟩
 have en:(((gh old).length:Int)+1).toNat=old.length+1:=by simp<;>omega
 rw[en]
 let Jv:=fun(m:Nat) (ys:List V) (σ:St) (H2:Hp)=>∃v,σ=[rr o,rr n,none,none,v]∧gg H H2∧ys.length=m∧∀i,i<m→∃a,ys[i]?=some (.ref a)∧H a=none∧H2 a=some (.lst (tab old new old.length))
 refine uS (by have:sizeLine=2 ^ 24:=rfl;omega) Jv
  ⟨none,rfl,gg.refl H,rfl,fun i hi=>absurd hi (Nat.not_lt_zero _)⟩ (by rintro _ _ _ _ ⟨_,_,_,e,_⟩;exact Nat.le_of_eq e) ?_ ?_
 ·rintro m ys σ H2 hm ⟨v,rfl,s2,hy,EO⟩
  refine⟨jQ,fun l PR=>?_⟩
  have s3:gg H (upd H2 l (.lst [V.int 0])):=s2.new PR
  refine⟨_,rfl,n,_,rfl,.inl (hV.of (s3 n _ hn)),_,_,rfl,rfl,l,_,_,rfl,rfl,b_,by simp<;>omega,by simp<;>omega,by simp;have:sizeLine=2 ^ 24:=rfl;omega,fun p hp=>?_⟩
  rw[Ls old new _ (show(((gh new).length:Int)+1).toNat=new.length+1 by simp<;>omega)]
  have o3:p≠l:=fun z=>by rw[z,b_] at hp;cases hp
  have AA:H2 p=none:=by rw[d_ o3] at hp;exact hp
  refine⟨_,rfl,s3.new hp,by rw[UZ,hy];rfl,fun i hi=>?_⟩
  by_cases e:i<m
  ·obtain⟨a,e1,e2,e3⟩:=EO i e
   refine⟨a,by rw[abR (by omega)];exact e1,e2,?_⟩
   rw[d_ (gb e3 AA),d_ (gb e3 PR)]
   exact e3
  ·have:i=m:=by omega
   subst this
   exact⟨p,by rw[abe (by omega),hy];simp,s2.free AA,b_⟩
 ·rintro ys σ H2 ⟨v,rfl,s2,hy,EO⟩ p hp
  have s3:gg H (upd H2 p (.lst ys)):=s2.new hp
  have FT:H p=none:=s2.free hp
  refine⟨_,rfl,o,_,rfl,.inl (hV.of (s3 o _ ho)),_,_,rfl,rfl,_,rfl,_,rfl,_,_,rfl,⟨by simp<;>omega,by simp<;>omega,by omega,by omega⟩,?_⟩
  have en:((((gh old).length:Int)-1) - -1).toNat=old.length:=by simp<;>omega
  rw[en]
  let Jv:=fun(m:Nat) (σ:St) (H3:Hp)=>∃v w rows,σ=[rr o,rr n,rr p,v,w]∧gg H H3∧H3 p=some (.lst rows)∧Mp H3 old new rows (old.length-m)∧∀i a,i≤old.length→rows[i]?=some (.ref a)→a≠p
  refine t_ Jv
   ⟨_,_,ys,rfl,s3,b_,⟨hy,fun i hi=>?_⟩,fun i a hi ha=>?_⟩ ?_ ?_
  ·obtain⟨a,e1,e2,e3⟩:=EO i (by omega)
   refine⟨a,e1,fun z=>?_⟩
   have:i=old.length:=by omega
   subst this
   rw[d_ (gb e3 hp)]
   exact e3
  ·obtain⟨a',e1,e2,e3⟩:=EO i (by omega)
   rw[ha] at e1
   cases e1
   exact gb e3 hp
  ·rintro m σ H3 hm ⟨v,w',rows,rfl,s4,h4,tb,nb⟩
   obtain⟨i,hi⟩:∃i,i=old.length-1-m:=⟨_,rfl⟩
   have PQ:i<old.length:=by omega
   rw[show((gh old).length:Int)-1+(m:Int) * -1=(i:Int) by simp<;>omega]
   have Tp:old[i]?=some old[i]:=VN PQ
   obtain⟨b,e1,e2⟩:=tb.2 (i+1) (by omega)
   refine⟨_,rfl,_,rfl,o,_,_,_,rfl,rfl,hV.of (s4 o _ ho),iF rfl (oF Tp),_,rfl,_,rfl,_,rfl,_,_,rfl,rfl,p,_,_,_,rfl,rfl,hV.of h4,iF (j:=i+1) (by omega) e1,?_⟩
   refine⟨old,new,i,_,n,b,rfl,Tp,s4 n _ hn,e2 (by omega),yv,fun q H5 s5 YQ h5=>?_⟩
   have YR:q≠p:=fun z=>by rw[z,h4] at YQ;cases YQ
   refine⟨_,rfl,_,rfl,p,rows,_,i,rfl,rfl,s5 p _ h4,BX rfl (by rw[tb.1];omega),?_⟩
   refine⟨_,_,_,rfl,(s4.trans s5).upd FT,b_,⟨by rw[ack];exact tb.1,fun i' AW=>?_⟩,fun i' a AW ha=>?_⟩
   ·by_cases e:i'=i
    ·subst e
     refine⟨q,by rw[abg (by rw[tb.1];omega)],fun _=>?_⟩
     rw[d_ YR];exact h5
    ·obtain⟨a,a1,a2⟩:=tb.2 i' AW
     refine⟨a,by rw[abo (fun z=>e z.symm)];exact a1,fun z=>?_⟩
     rw[d_ (nb i' a AW a1)]
     exact s5 a _ (a2 (by omega))
   ·by_cases e:i'=i
    ·subst e
     rw[abg (by rw[tb.1];omega)] at ha
     cases ha
     exact YR
    ·rw[abo (fun z=>e z.symm)] at ha
     exact nb i' a AW ha
  ·rintro σ H3 ⟨v,w',rows,rfl,s4,h4,tb,nb⟩
   refine⟨_,rfl,k p H3 rows s4 FT h4 ?_⟩
   rw[Nat.sub_self] at tb
   exact tb
end
end Kp
namespace K01
theorem Cq{α:Type}[DecidableEq α]{a:α}{new:List α}{j k:Nat}(hj:j≤k)(hk:new[k]?=some a)(hm:∀l,j≤l→l<k→new[l]?≠some a):i_ a new j=some k:=by
 cases e:i_ a new j with
 | none=>exact absurd hk (nS e k hj)
 | some k'=>
  obtain⟨h1,h2,h3⟩:=kB e
  rcases Nat.lt_trichotomy k k' with h|h|h
  ·exact absurd hk (h3 k hj h)
  ·rw[h]
  ·exact absurd h2 (hm k' h1 h)
theorem Cr{α:Type}[DecidableEq α]{a:α}{new:List α}{j:Nat}(hm:∀l,j≤l→l<new.length→new[l]?≠some a):i_ a new j=none:=by
 cases e:i_ a new j with
 | none=>rfl
 | some k'=>
  obtain⟨h1,h2,h3⟩:=kB e
  exact absurd h2 (hm k' h1 (RO.mp h2).1)
end K01
namespace Kp
open PySem L2
section
variable{P:Program}{w:World}{K:Qqy}{mg:Qqx}{base:Heap}
noncomputable def U5:Option Nat→V
 | none=>.jn
 | some k=>.int k
theorem QT:gv ["texts","text","start","place"] ["texts","text","start"] (fZ U4):=⟨rfl,rfl,rfl,by decide+kernel,rfl,by decide+kernel,by decide+kernel⟩
def QU:Sp:=fun vs H Q _=>∃(new:List Str)(t:Str)(n:Addr)(j:Nat),vs=[.ref n,.str t,.int j]∧H n=some (.lst (gh new))∧new.length≤1000∧j≤1000∧Q (U5 (K01.i_ t new j)) H
theorem QV{f:Addr}{fd:FuncData}(F:xl K "place_from" "place_from" U4 f fd)(T:Txt mg):ik P w K mg base mT 1 f fd ["texts","text","start"] QU:=by
 refine F.q0 QT fun jx A outer s H vs Q E hr h=>?_
 obtain⟨new,t,n,j,rfl,hn,hl,hj,k⟩:=h
 refine⟨_,de (iC aar rfl (A2 rfl T.range (a_ (pv 2) (a_ (hZ gn (by rfl) T.len aay (a_ (pv 0) e_)) e_))) (iy (i:=3) QT.nd rfl (Or.inl rfl))
   (fO (iE (ip mD (jO kF (pv 0) (pv 3) (fun _ _=>rfl)) (pv 1) (iN _)) (fO (h_ (pv 3))) ia)))
  (fO (h_ tW)),?_⟩
 refine HW ?_;intro _
 refine⟨_,rfl,_,rfl,n,_,rfl,.inl (hV.of hn),_,_,rfl,⟨by omega,by omega,by simp<;>omega,by simp<;>omega⟩,?_⟩
 let Jv:=fun(m:Nat) (σ:St) (H2:Hp)=>∃v,σ=[rr n,rs t,ri j,v]∧H2=H∧∀l,j≤l→l<j+m→new[l]?≠some t
 refine nN Jv ⟨none,rfl,rfl,fun l h1 h2=>by omega⟩ ?_ ?_
 ·rintro m σ H2 hm ⟨v,rfl,rfl,h2⟩
  have hm:j+m<new.length:=by simp at hm;omega
  rw[show(j:Int)+(m:Int)=((j+m:Nat):Int) by omega]
  have O2:new[j+m]?=some new[j+m]:=VN hm
  refine⟨_,rfl,_,rfl,n,_,_,_,rfl,rfl,hV.of hn,iF rfl (oF O2),_,rfl,rfl,_,rfl,?_⟩
  refine kI (fun hc=>?_) (fun hc=>?_)
  ·have hc:new[j+m]=t:=by have:=aaB hc;injection this
   rw[hc] at O2
   rw[K01.Cq (Nat.le_add_right j m) O2 h2] at k
   exact⟨_,rfl,k⟩
  ·have hc:¬new[j+m]=t:=fun z=>hc (by rw[z];exact XU rfl)
   refine⟨_,rfl,rfl,fun l h3 h4=>?_⟩
   by_cases e:l=j+m
   ·subst e
    rw[O2]
    intro z
    exact hc (aaD z)
   ·exact h2 l h3 (by omega)
 ·rintro σ H2 ⟨v,rfl,rfl,h2⟩
  rw[K01.Cr (j:=j) fun l h3 h4=>h2 l h3 (by simp<;>omega)] at k
  exact k
def my(H:Hp)(q:Nat×Nat)(v:V):Prop:=∃a,v=.ref a∧H a=some (.tup [.int q.1,.int q.2])
abbrev jf(H:Hp)(l:List (Nat×Nat))(vs:List V):Prop:=Paired (my H) l vs
theorem jf.keep{H H':Hp}{l:List (Nat×Nat)}{vs:List V}(h:jf H l vs)(k:∀a xs,H a=some (.tup xs)→H' a=some (.tup xs)):jf H' l vs:=
 Paired.kS h fun q v ⟨a,e,h⟩=>⟨a,e,k a _ h⟩
theorem N4:gv ["old","new","table","pairs","start","first","second"] ["old","new"] (fZ Mo):=⟨rfl,rfl,rfl,by decide+kernel,rfl,by decide+kernel,by decide+kernel⟩
def X8:Sp:=fun vs H Q _=>∃(old new:List Str)(o n:Addr),vs=[.ref o,.ref n]∧H o=some (.lst (gh old))∧H n=some (.lst (gh new))∧old.length≤1000∧new.length≤1000∧
 ∀p H' ps,gg H H'→H p=none→H' p=some (.lst ps)→jf H' (K01.kept old new) ps→Q (.ref p) H'
theorem Lu{f fM fC fP:Addr}{fd Wc P0 Wd:FuncData}(F:xl K "kept" "kept" Mo f fd)(T:Txt mg)(C:xl K "counts_with" "counts_with" S6 fC P0)(bC:Binds K P0 ["text","new","below"] [])(mC:mg "counts_with"=some (.ref fC))
  (M:xl K "most_pairs" "most_pairs" S7 fM Wc) (bM:Binds K Wc ["old","new"] []) (mM:mg "most_pairs"=some (.ref fM)) (Pf:xl K "place_from" "place_from" U4 fP Wd) (bP:Binds K Wd ["texts","text","start"] []) (mP:mg "place_from"=some (.ref fP)) :
  ik P w K mg base mT 3 f fd ["old","new"] X8:=by
 have GM:ik P w K mg base mT 2 fM Wc ["old","new"] QR:=QS M T C bC mC
 have GP:ik P w K mg base mT 2 fP Wd ["texts","text","start"] QU:=(QV Pf T).mono (by decide)
 refine F.q0 N4 fun jx A outer s H vs Q E hr h=>?_
 obtain⟨old,new,o,n,rfl,ho,hn,Vm,yv,k⟩:=h
 refine⟨_,de (lE (i:=2) N4.nd rfl (Or.inl rfl) (uM GM hr rfl mM M.kp bM .nil oC (a_ (pv 0) (a_ (pv 1) e_))))
  (de (lE (i:=3) N4.nd rfl (Or.inl rfl) (i8 e_))
  (de (lE (i:=4) N4.nd rfl (Or.inl rfl) f_)
  (de (iC aar rfl (lu rfl T.range (a_ (hZ gn (by rfl) T.len aay (a_ (pv 0) e_)) e_)) (iy (i:=5) N4.nd rfl (Or.inl rfl))
   (de (lE (i:=6) N4.nd rfl (Or.inl rfl) (uM GP hr rfl mP Pf.kp bP .nil oC (a_ (pv 1) (a_ (jO kF (pv 0) (pv 5) (fun _ _=>rfl)) (a_ (pv 4) e_)))))
   (fO (iE (pw_and (i7 (oy (pv 6))) (pw_and1 (ip mD
     (gm iJ (jO kF (jO kF (pv 2) (gm iJ (pv 5) f_) (fun _ _=>rfl)) (gm iJ (pv 6) f_) (fun _ _=>rfl)) f_)
     (jO kF (jO kF (pv 2) (pv 5) (fun _ _=>rfl)) (pv 4) (fun _ _=>rfl)) (iN _)))).pt
    (de (hG (oA aaJ aaQ aaR jW (pv 3) (a_ (vZ (a_ (pv 5) (a_ (pv 6) e_))) e_)))
    (fO (lE (i:=4) N4.nd rfl (Or.inl rfl) (gm iJ (pv 6) f_))))
    ia))))
  (fO (h_ (pv 3)))))),?_⟩
 refine NH ?_;intro _ _ _ _
 refine⟨_,rfl,_,rfl,old,new,o,n,rfl,ho,hn,Vm,yv,fun tb H1 rows s1 V2 h1 R_=>?_⟩
 refine⟨jQ,fun pr O3=>?_⟩
 have We:H pr=none:=s1.free O3
 refine⟨_,rfl,o,_,rfl,.inl (hV.of (s1.new O3 o _ ho)),_,rfl,by simp<;>omega,by simp<;>omega,?_⟩
 have en:((gh old).length:Int).toNat=old.length:=by simp
 rw[en]
 refine nN (fun m σ H2=>∃(j:Nat)(acc:List (Nat×Nat))(ps:List V)(v w:Option V),σ=[rr o,rr n,rr tb,rr pr,ri j,v,w]∧gg H1 H2∧H2 pr=some (.lst ps)∧jf H2 acc ps∧acc.length≤m∧j≤new.length∧
   acc++K01.pB new m (old.drop m) j=K01.kept old new) ⟨0,[],[],none,none,rfl,(gg.refl H1).new O3,b_,.nil,U0 _,aaK _,rfl⟩ ?_ ?_
 ·rintro m σ H2 hm ⟨j,acc,ps,v,w',rfl,s2,h2,pa,vP,hj,hk⟩
  rw[show(0:Int)+(m:Int)=(m:Int) by omega]
  have hom:old[m]?=some old[m]:=VN hm
  have hd:old.drop m=old[m]::old.drop (m+1):=aaT hm
  rw[hd,K01.pB] at hk
  refine⟨_,rfl,_,rfl,_,rfl,o,_,_,_,rfl,rfl,hV.of (s2 o _ (s1 o _ ho)),iF rfl (oF hom),_,rfl,new,_,n,j,rfl,s2 n _ (s1 n _ hn),yv,by omega,?_⟩
  cases e:K01.i_ old[m] new j with
  | none=>
   rw[e] at hk
   refine⟨_,rfl,_,rfl,DB (by rfl) (kA ?_)⟩
   exact⟨j,acc,ps,_,_,rfl,s2,h2,pa,by omega,hj,hk⟩
  | some q=>
   rw[e] at hk
   simp only at hk
   obtain⟨hq1,hq2,hq3⟩:=K01.kB e
   have MH:q<new.length:=(RO.mp hq2).1
   obtain⟨a1,ea1,Wf⟩:=R_.2 (m+1) (by omega)
   obtain⟨a0,ea0,Wg⟩:=R_.2 m (by omega)
   have Wf:=s2 a1 _ (Wf (aaK _))
   have Wg:=s2 a0 _ (Wg (aaK _))
   have Sb:H2 tb=some (.lst rows):=s2 tb _ h1
   refine⟨_,rfl,_,rfl,DC (by rfl) ?_⟩
   refine⟨_,rfl,_,rfl,_,_,rfl,rfl,tb,_,_,_,rfl,rfl,hV.of Sb,iF (j:=m+1) (by omega) ea1,_,rfl,_,_,rfl,rfl,a1,_,_,_,rfl,rfl,hV.of Wf,iF (j:=q+1) (by omega) (Cp (by omega)),_,_,rfl,rfl,
    _,rfl,_,rfl,tb,_,_,_,rfl,rfl,hV.of Sb,iF rfl ea0,_,rfl,a0,_,_,_,rfl,rfl,hV.of Wg,iF rfl (Cp (by omega)),rfl,_,rfl,?_⟩
   refine kI (fun hc=>?_) (fun hc=>?_)
   ·have hc:((K01.wu old new (m+1) (q+1):Nat):Int)+1=((K01.wu old new m j:Nat):Int):=by have:=aaB hc;injection this
    have BD:K01.lcs (old.drop (m+1)) (new.drop (q+1))+1=K01.lcs (old[m]::old.drop (m+1)) (new.drop j):=by rw[←hd];unfold K01.wu at hc;omega
    rw[aas BD] at hk
    refine⟨_,rfl,.inl ⟨rfl,_,hV.of h2⟩,_,rfl,_,rfl,jQ,fun t ht=>?_⟩
    have o3:=pa.length
    have YS:pr≠t:=gb h2 ht
    refine⟨pr,ps,_,rfl,rfl,by rw[d_ YS];exact h2,by have:sizeLine=2 ^ 24:=rfl;omega,?_⟩
    refine⟨_,rfl,_,_,rfl,rfl,q+1,acc++[(m,q)],ps++[.ref t],_,_,rfl,(s2.new ht).upd O3,b_,?_,by rw[UZ];simp;omega,by omega,by rw[aaS];exact hk⟩
    refine Paired.snoc (pa.keep fun a xs ha=>?_) ⟨t,rfl,?_⟩
    ·rw[d_ (i9 ha h2 (by intro z;cases z)),d_ (gb ha ht)];exact ha
    ·rw[d_ (abQ YS),b_]
     rfl
   ·have hc:¬((K01.wu old new (m+1) (q+1):Nat):Int)+1=((K01.wu old new m j:Nat):Int):=fun z=>hc (XU (aa5 V.int z))
    have BD:¬K01.lcs (old.drop (m+1)) (new.drop (q+1))+1=K01.lcs (old[m]::old.drop (m+1)) (new.drop j):=by rw[←hd];unfold K01.wu at hc;omega
    rw[aan BD] at hk
    exact⟨j,acc,ps,_,_,rfl,s2,h2,pa,by omega,hj,hk⟩
 ·rintro σ H2 ⟨j,acc,ps,v,w',rfl,s2,h2,pa,vP,hj,hk⟩
  rw[acj,K01.pB,aaN] at hk
  rw[hk] at pa
  exact⟨_,rfl,k pr H2 ps (s1.trans s2) We h2 pa⟩
end
end Kp
namespace PK
open PySem L2 PM
open Kp (my jf)
theorem N5(a b c d:V):jD "lower_name" d (jD "upper_name" c (jD "text" b (jD "name" a [])))=Lm a b c d:=by kernel_rfl
theorem N6(a b c d e:V):jD "other" e (jD "cuts" d (jD "puts" c (jD "file" b (jD "name" a []))))=Lo a b c d e:=by kernel_rfl
noncomputable def Mq(a l:Addr):List (Str×V):=[("ahead",.ref a),("lines",.ref l)]
theorem N7(a l:Addr):jD "lines" (.ref l) (jD "ahead" (.ref a) [])=Mq a l:=by kernel_rfl
theorem lB(a l:Addr):(Mq a l).lookup ("lines":Str)=some (V.ref l):=by kernel_rfl
theorem Fz(a l:Addr):(Mq a l).lookup ("ahead":Str)=some (V.ref a):=by kernel_rfl
theorem N8(a l:Addr):(Mq a l).lookup ("is_ahead":Str)=none:=by kernel_rfl
theorem JJ(a l:Addr):(Mq a l).lookup ("quarrelling":Str)=none:=by kernel_rfl
theorem Hv(a:Addr):(jD ("ahead":Str) (.ref a) []).lookup ("ahead":Str)=some (V.ref a):=by kernel_rfl
def FA(A:Ad)(H:Hp)(p:Addr)(al row:List Ln):Prop:=∃dx ah l,H p=some (.ins A.ib dx (Mq ah l))∧Cn H ah al∧qv A H l row
theorem FA.same{A:Ad}{H H':Hp}{p:Addr}{al row:List Ln}(x:FA A H p al row)(s:gg H H'):FA A H' p al row:=by
 obtain⟨dx,ah,l,h1,h2,h3⟩:=x
 exact⟨dx,ah,l,s _ _ h1,h2.same s,h3.same s⟩
section
variable{P:Program}{w:World}{K:Qqy}{mg:Qqx}{base:Heap}{A:Ad}
def QW(A:Ad):Sp:=fun vs H Q _=>∃(p dx:Addr)(a b c d:V),vs=[.ref p,a,b,c,d]∧H p=some (.ins A.g_ dx [])∧∀H',(∀x,x≠p→H' x=H x)→H' p=some (.ins A.g_ dx (Lm a b c d))→Q .jn H'
theorem Cs(T:Txt mg)(O:Ok K mg A):ik P w K mg base mT 1 A.nj A.qN ["self","name","text","upper_name","lower_name"] (QW A):=by
 refine O.tN.f.q0 wy fun jx A0 outer s H vs Q E hr h=>?_
 obtain⟨p,dx,a,b,c,d,rfl,hp,k⟩:=h
 refine⟨_,(de (lF (pv 0) (pv 1) rfl)
  (de (lF (pv 0) (pv 2) rfl)
  (de (lF (pv 0) (pv 3) rfl)
  (fO (lF (pv 0) (pv 4) rfl))))),?_⟩
 refine K3 ?_;intro _ _ _
 refine⟨_,rfl,_,rfl,p,A.g_,dx,_,rfl,hp,O.iG,O.hE,(by show 0<1000;decide),?_⟩
 refine⟨_,rfl,_,rfl,p,A.g_,dx,_,rfl,b_,O.iG,O.js,(by show 1<1000;decide),?_⟩
 refine⟨_,rfl,_,rfl,p,A.g_,dx,_,rfl,b_,O.iG,O.iz,(by show 2<1000;decide),?_⟩
 refine⟨_,rfl,_,rfl,p,A.g_,dx,_,rfl,b_,O.iG,O.iA,(by show 3<1000;decide),?_⟩
 exact k _ (fun x hx=>by rw[d_ hx,d_ hx,d_ hx,d_ hx]) (Eq.trans b_ (aa5 (fun l=>some (HO.ins A.g_ dx l)) (N5 a b c d)))
def QX(A:Ad):Sp:=fun vs H Q _=>∃(p dx:Addr)(a b c d e:V),vs=[.ref p,a,b,c,d,e]∧H p=some (.ins A.gz dx [])∧∀H',(∀x,x≠p→H' x=H x)→H' p=some (.ins A.gz dx (Lo a b c d e))→Q .jn H'
theorem o9(T:Txt mg)(O:Ok K mg A):ik P w K mg base mT 1 A.mr A.pG ["self","name","file","puts","cuts","other"] (QX A):=by
 refine O.lW.f.q0 u1 fun jx A0 outer s H vs Q E hr h=>?_
 obtain⟨p,dx,a,b,c,d,e,rfl,hp,k⟩:=h
 refine⟨_,(de (lF (pv 0) (pv 1) rfl)
  (de (lF (pv 0) (pv 2) rfl)
  (de (lF (pv 0) (pv 3) rfl)
  (de (lF (pv 0) (pv 4) rfl)
  (fO (lF (pv 0) (pv 5) rfl)))))),?_⟩
 refine NH ?_;intro _ _ _ _
 refine⟨_,rfl,_,rfl,p,A.gz,dx,_,rfl,hp,O.iZ,O.iY,(by show 0<1000;decide),?_⟩
 refine⟨_,rfl,_,rfl,p,A.gz,dx,_,rfl,b_,O.iZ,O.jM,(by show 1<1000;decide),?_⟩
 refine⟨_,rfl,_,rfl,p,A.gz,dx,_,rfl,b_,O.iZ,O.jv,(by show 2<1000;decide),?_⟩
 refine⟨_,rfl,_,rfl,p,A.gz,dx,_,rfl,b_,O.iZ,O.jw,(by show 3<1000;decide),?_⟩
 refine⟨_,rfl,_,rfl,p,A.gz,dx,_,rfl,b_,O.iZ,O.iR,(by show 4<1000;decide),?_⟩
 exact k _ (fun x hx=>by rw[d_ hx,d_ hx,d_ hx,d_ hx,d_ hx]) (Eq.trans b_ (aa5 (fun l=>some (HO.ins A.gz dx l)) (N6 a b c d e)))
def Lv(A:Ad):Sp:=fun vs H Q _=>∃(p dx a:Addr)(ps:List Pt)(f:Str),vs=[.ref p,.ref a,.str f]∧H p=some (.ins A.ib dx [])∧yp A H a ps∧Small ps∧
 ((hU ps f).map (·.nm)).Nodup∧qa (hU ps f)∧Jn (hU ps f)∧
 ∀(H':Hp),(∀b o,H b=some o→b≠p→H' b=some o)→FA A H' p (hU ps f) (rowOf (Ah (hU ps f)) (nU ps f))→Q .jn H'
theorem kP.off{H H':Hp}{p C dx:Addr}{fs:List (Str×V)}{v:V}{n:Nm}(x:kP H v n)(hp:H p=some (.ins C dx fs))(s:∀b o,H b=some o→b≠p→H' b=some o):kP H' v n:=by
 obtain⟨t,e,h⟩:=x
 exact⟨t,e,s _ _ h (i9 h hp (fun z=>by cases z))⟩
theorem Ea.off{H H':Hp}{p C dx:Addr}{fs:List (Str×V)}{v:V}{n:Option Nm}(x:Ea H v n)(hp:H p=some (.ins C dx fs))(s:∀b o,H b=some o→b≠p→H' b=some o):Ea H' v n:=by
 cases n with
 | none=>exact x
 | some n=>exact kP.off x hp s
theorem nu.off{H H':Hp}{p C dx a:Addr}{fs:List (Str×V)}{l:Ln}(x:nu A H a l)(hp:H p=some (.ins C dx fs))(hf:fs.length<2)(s:∀b o,H b=some o→b≠p→H' b=some o):nu A H' a l:=by
 obtain⟨Wh,vn,vu,vl,h,h1,h2,h3⟩:=x
 have:a≠p:=fun z=>by
  rw[z,hp] at h
  have e:=aaD h
  injection e with _ _ e
  rw[e] at hf
  exact absurd hf (by unfold Lm;simp)
 exact⟨Wh,vn,vu,vl,s _ _ h this,h1.off hp s,h2.off hp s,h3.off hp s⟩
theorem qv.off{H H':Hp}{p C dx a:Addr}{fs:List (Str×V)}{ls:List Ln}(x:qv A H a ls)(hp:H p=some (.ins C dx fs))(hf:fs.length<2)(s:∀b o,H b=some o→b≠p→H' b=some o):qv A H' a ls:=by
 obtain⟨as,h,q⟩:=x
 exact⟨as,s _ _ h (i9 h hp (fun z=>by cases z)),Paired.kS q fun _ _ z=>z.off hp hf s⟩
theorem zJ.off{H H':Hp}{p C dx a:Addr}{fs:List (Str×V)}{ns:List Nm}(x:zJ H a ns)(hp:H p=some (.ins C dx fs))(s:∀b o,H b=some o→b≠p→H' b=some o):zJ H' a ns:=by
 obtain⟨as,h,q⟩:=x
 exact⟨as,s _ _ h (i9 h hp (fun z=>by cases z)),Paired.kS q fun _ _ z=>z.off hp s⟩
theorem ou.off{H H':Hp}{p C dx a:Addr}{fs:List (Str×V)}{pt:Pt}(x:ou A H a pt)(hp:H p=some (.ins C dx fs))(hf:fs.length<2)(s:∀b o,H b=some o→b≠p→H' b=some o):ou A H' a pt:=by
 obtain⟨Wh,vf,pu,cu,vo,h,h1,h2,h3,h4⟩:=x
 have:a≠p:=fun z=>by
  rw[z,hp] at h
  have e:=aaD h
  injection e with _ _ e
  rw[e] at hf
  exact absurd hf (by unfold Lo;simp)
 exact⟨Wh,vf,pu,cu,vo,s _ _ h this,h1,h2.off hp hf s,h3.off hp s,h4⟩
theorem yp.off{H H':Hp}{p C dx a:Addr}{fs:List (Str×V)}{ps:List Pt}(x:yp A H a ps)(hp:H p=some (.ins C dx fs))(hf:fs.length<2)(s:∀b o,H b=some o→b≠p→H' b=some o):yp A H' a ps:=by
 obtain⟨as,h,q⟩:=x
 exact⟨as,s _ _ h (i9 h hp (fun z=>by cases z)),Paired.kS q fun _ _ z=>z.off hp hf s⟩
theorem Cn.off{H H':Hp}{p C dx a:Addr}{fs:List (Str×V)}{ls:List Ln}(x:Cn H a ls)(hp:H p=some (.ins C dx fs))(s:∀b o,H b=some o→b≠p→H' b=some o):Cn H' a ls:=by
 obtain⟨kvs,e1,e2⟩:=x
 refine⟨kvs,s _ _ e1 (i9 e1 hp (fun z=>by cases z)),fun n hn=>?_⟩
 obtain⟨b,dk,z1,z2,z3⟩:=e2 n hn
 exact⟨b,dk,z1,s _ _ z2 (i9 z2 hp (fun z=>by cases z)),z3⟩
theorem AN(T:Txt mg)(O:Ok K mg A):ik P w K mg base mT 3 A.mv A.pN ["self","patches","file"] (Lv A):=by
 have Ex:=@Co P w K mg base A T O
 have sy:=@vD P w K mg base A T O
 have wX:=@vE P w K mg base A T O
 have Ke:=@Hu P w K mg base A T O
 refine O.rY.f.q0 u2 fun jx A0 outer s H vs Q E hr h=>?_
 obtain⟨p,dx,a,ps,f,rfl,hp,ha,sm,nd,cl,tp,q⟩:=h
 have Sd:wN (hU ps f).length:=aad (qw ps f) sm.ig
 have yu:=lO ps f
 refine⟨_,(de (lF (pv 0) (rl O.Bm Ex hr (a_ (rl O.wL sy hr (a_ (pv 1) (a_ (pv 2) e_))) e_)) rfl)
   (fO (lF (pv 0) (rl O.Jx Ke hr (a_ (rl O.rW wX hr (a_ (pv 1) (a_ (pv 2) e_))) (a_ (gq (pv 0) rfl) e_))) rfl))),?_⟩
 refine HW ?_;intro _
 refine⟨_,rfl,_,rfl,a,ps,f,rfl,ha,sm,fun l1 H1 s1 TC Se=>?_⟩
 refine⟨l1,_,rfl,Se,Sd,nd,cl,tp,fun ah H2 s2 TF Sf=>?_⟩
 have Wi:gg H H2:=s1.trans s2
 have AA:=Wi p _ hp
 refine⟨_,rfl,p,A.ib,dx,_,rfl,AA,O.j9,O.jA,(by show 0<1000;decide),?_⟩
 have s3:∀b o,H2 b=some o→b≠p→(upd H2 p (.ins A.ib dx (jD "ahead" (.ref ah) []))) b=some o:=fun b o e n=>by rw[d_ n];exact e
 have ha3:=(ha.same Wi).off AA (by decide) s3
 have Sg:=Sf.off AA s3
 refine⟨_,rfl,_,rfl,a,ps,f,rfl,ha3,sm,fun st H4 s4 TH Sh=>?_⟩
 have PY:H4 p=some (.ins A.ib dx (jD "ahead" (.ref ah) [])):=s4 p _ b_
 refine⟨_,rfl,p,A.ib,dx,_,_,rfl,PY,O.j9,O.jA,Hv ah,st,ah,nU ps f,hU ps f,rfl,Sh,Sg.same s4,aad yu.length_le Sd,(yu.map _).nodup nd,fun l hl=>aaa (yu.subset hl),tp,fun l H5 s5 TJ Si=>?_⟩
 have Wj:=s5 p _ PY
 refine⟨_,rfl,p,A.ib,dx,_,rfl,Wj,O.j9,O.iq,(by show 1<1000;decide),?_⟩
 have s6:∀b o,H5 b=some o→b≠p→(upd H5 p (.ins A.ib dx (jD "lines" (.ref l) (jD "ahead" (.ref ah) [])))) b=some o:=fun b o e n=>by rw[d_ n];exact e
 refine q _ (fun b o hb nb=>?_) ⟨dx,ah,l,Eq.trans b_ (aa5 (fun l=>some (HO.ins A.ib dx l)) (N7 ah l)),?_,?_⟩
 ·rw[d_ nb]
  refine s5 b o (s4 b o ?_)
  rw[d_ nb]
  exact Wi b o hb
 ·exact((Sg.same s4).same s5).off Wj s6
 ·exact Si.off Wj (by show 1<2;decide) s6
open Classical in
def U6(A:Ad):Sp:=fun vs H Q _=>∃(p:Addr)(al row:List Ln)(i j:Nat)(a b:Ln),vs=[.ref p,.int i,.int j]∧FA A H p al row∧row[i]?=some a∧row[j]?=some b∧b.nm∈al.map (·.nm)∧Q (.bl (decide (Ah al a.nm b.nm))) H
open Classical in
theorem Ei(T:Txt mg)(O:Ok K mg A):ik P w K mg base mT 1 A.pO A.pP ["self","first","second"] (U6 A):=by
 refine O.rZ.f.q0 u_ fun jx A0 outer s H vs Q E hr h=>?_
 obtain⟨p,al,row,i,j,x,y,rfl,⟨dx,ah,l,h1,⟨kh,h2,h3⟩,⟨as,h4,h5⟩⟩,hi,hj,hy,q⟩:=h
 obtain⟨b,hb,dxb,vn,vu,vl,g1,⟨t,rfl,g2⟩,g3,g4⟩:=mK h5 hi
 obtain⟨c,hc,dxc,vn',vu',vl',k1,⟨t',rfl,k2⟩,k3,k4⟩:=mK h5 hj
 obtain⟨e,dk,z1,z2,z3⟩:=h3 y.nm hy
 have TK:(as.map V.ref)[i]?=some (.ref b):=by rw[aak,hb];rfl
 have hcj:(as.map V.ref)[j]?=some (.ref c):=by rw[aak,hc];rfl
 refine⟨_,(fO (h_ (M0 (mS (by exact iI hr) (gq (Az (gq (pv 0) rfl) (pv 1)) rfl) (xp hr (gq (pv 0) rfl) (gq (Az (gq (pv 0) rfl) (pv 2)) rfl)))))),?_⟩
 refine⟨_,rfl,p,A.ib,dx,_,_,rfl,h1,O.j9,O.iq,lB ah l,_,rfl,l,_,_,_,rfl,rfl,hV.of h4,iF rfl TK,b,A.g_,dxb,_,_,rfl,g1,O.iG,O.hE,i0,?_⟩
 refine⟨_,rfl,p,A.ib,dx,_,_,rfl,h1,O.j9,O.jA,Fz ah l,_,rfl,p,A.ib,dx,_,_,rfl,h1,O.j9,O.iq,lB ah l,_,rfl,l,_,_,_,rfl,rfl,hV.of h4,iF rfl hcj,c,A.g_,dxc,_,_,rfl,k1,O.iG,O.hE,i0,ah,.ref e,rfl,?_,e,_,rfl,iT.t (k:=nk x.nm) z2 g2,?_⟩
 ·have:=iT.t (k:=nk y.nm) h2 k2
  rw[z1] at this
  exact this
 ·have e2:(iO dk (nk x.nm)).isSome=decide (Ah al x.nm y.nm):=by
   rw[abA,decide_eq_true_iff];exact z3 x.nm
  rw[e2]
  exact q
def U7(A:Ad):Sp:=fun vs H Q _=>∃(p:Addr)(al row:List Ln),vs=[.ref p]∧FA A H p al row∧(∀l∈row,l.nm∈al.map (·.nm))∧wN row.length∧∀r H' vs,gg H H'→H r=none→H' r=some (.lst vs)→jf H' (kY (Ah al) row) vs→Q (.ref r) H'
open Classical in
noncomputable def wO(lt:Nm→Nm→Prop)(row:List Ln)(i m:Nat):List (Nat×Nat):=((List.range' (i+1) m).filter fun j=>decide (¬ltAt lt row i j)).map fun j=>(i,j)
noncomputable def Ej(lt:Nm→Nm→Prop)(row:List Ln)(i:Nat):List (Nat×Nat):=(List.range i).flatMap fun i=>wO lt row i (row.length-(i+1))
theorem JK(lt:Nm→Nm→Prop)(row:List Ln):Ej lt row row.length=kY lt row:=rfl
theorem By(lt:Nm→Nm→Prop)(row:List Ln)(i:Nat):Ej lt row (i+1)=Ej lt row i++wO lt row i (row.length-(i+1)):=by
 unfold Ej
 rw[List.range_succ,aa1,aaA,abr,aaN]
theorem Hw(lt:Nm→Nm→Prop)(row:List Ln)(i m:Nat)(h:¬ltAt lt row i (i+1+m)):wO lt row i (m+1)=wO lt row i m++[(i,i+1+m)]:=by
 unfold wO
 rw[show m+1=m+1 from rfl,←List.range'_append_1 (s:=i+1) (m:=m) (n:=1),aaM,aau]
 congr 1
 show List.map _ (List.filter _ [i+1+m])=_
 rw[XZ (by simpa using h)]
 rfl
theorem FC(lt:Nm→Nm→Prop)(row:List Ln)(i m:Nat)(h:ltAt lt row i (i+1+m)):wO lt row i (m+1)=wO lt row i m:=by
 unfold wO
 rw[←List.range'_append_1 (s:=i+1) (m:=m) (n:=1),aaM,aau]
 show _++List.map _ (List.filter _ [i+1+m])=_
 rw[aaj (by simpa using h)]
 simp
theorem Ek(lt:Nm→Nm→Prop)(row:List Ln)(i m:Nat):(wO lt row i m).length≤m:=by
 unfold wO
 rw[RK]
 exact aad (aaI _ _) (by rw[List.length_range'];exact U0 _)
theorem El(lt:Nm→Nm→Prop)(row:List Ln):∀i,(Ej lt row i).length≤i*row.length
 | 0=>aaK _
 | i+1=>by
  rw[By,UZ,Nat.succ_mul]
  have:=El lt row i
  have:=Ek lt row i (row.length-(i+1))
  omega
open Classical in
theorem sr(T:Txt mg)(O:Ok K mg A):ik P w K mg base mT 2 A.nE A.nF ["self"] (U7 A):=by
 have wY:=@Ei P w K mg base A T O
 refine O.jI.f.q0 jG fun jx A0 outer s H vs Q E hr h=>?_
 obtain⟨p,al,row,rfl,S,Sj,jQ,q⟩:=h
 obtain⟨dx,ah,l,h1,h2,⟨as,h4,h5⟩⟩:=id S
 have hlen:=aao h5
 have yw:row.length≤4000:=jQ
 have sz:sizeLine=16777216:=aaC
 refine⟨_,(de (kX 1 jG (i8 e_))
   (de (iC aar rfl (lu rfl T.nK (a_ (hZ gn (by rfl) T.jP aay (a_ (gq (pv 0) rfl) e_)) e_)) (rm 2 jG) (fO (iC aar rfl (A2 rfl T.nK (a_ (gm iJ (pv 2) f_) (a_ (hZ gn (by rfl) T.jP aay (a_ (gq (pv 0) rfl) e_)) e_))) (rm 3 jG) (fO (iE (q8 (vU (Ax (pv 0) O.j9 O.rZ wY hr (a_ (pv 2) (a_ (pv 3) e_))))) (fO (hG (oA aaJ aaQ aaR jW (pv 1) (a_ (vZ (a_ (pv 2) (a_ (pv 3) e_))) e_)))) ia)))))
   (fO (h_ (pv 1))))),?_⟩
 refine EK ?_;intro _ _
 refine⟨L2.jQ,fun r qB=>?_⟩
 have s1:gg H (upd H r (.lst [])):=(gg.refl H).new qB
 have el:((as.map V.ref).length:Int)=(row.length:Int):=by rw[RK,hlen]
 refine⟨_,rfl,p,A.ib,dx,_,_,rfl,s1 _ _ h1,O.j9,O.iq,lB ah l,l,_,rfl,.inl (hV.of (s1 _ _ h4)),_,rfl,by omega,by omega,?_⟩
 rw[el,abW]
 let Jv:=fun(i:Nat) (σ:St) (H2:Hp)=>∃(v2 v3:Option V)(vs:List V),σ=[rr p,rr r,v2,v3]∧gg H H2∧H2 r=some (.lst vs)∧jf H2 (Ej (Ah al) row i) vs
 refine nN Jv ⟨none,none,[],rfl,s1,b_,.nil⟩ ?_ ?_
 ·rintro i σ H2 hi ⟨v2,v3,vs,rfl,s2,k1,k2⟩
  rw[show(0:Int)+(i:Int)=(i:Int) by omega]
  refine⟨_,rfl,_,_,rfl,rfl,_,rfl,p,A.ib,dx,_,_,rfl,s2 _ _ h1,O.j9,O.iq,lB ah l,l,_,rfl,.inl (hV.of (s2 _ _ h4)),_,_,rfl,⟨by omega,by omega,by omega,by omega⟩,?_⟩
  rw[el,show((row.length:Int)-((i:Int)+1)).toNat=row.length-(i+1) by omega]
  let Jv:=fun(m:Nat) (σ:St) (H3:Hp)=>∃(v3:Option V)(vs:List V),σ=[rr p,rr r,ri i,v3]∧gg H H3∧H3 r=some (.lst vs)∧jf H3 (Ej (Ah al) row i++wO (Ah al) row i m) vs
  refine nN Jv ⟨v3,vs,rfl,s2,k1,by unfold wO;simpa using k2⟩ ?_ ?_
  ·rintro m σ H3 hm ⟨v3,vs,rfl,s3,k1,k2⟩
   rw[show(i:Int)+1+(m:Int)=((i+1+m:Nat):Int) by omega]
   have hj:i+1+m<row.length:=by omega
   have ei:row[i]?=some row[i]:=VN hi
   have ej:row[i+1+m]?=some row[i+1+m]:=VN hj
   have yv:vs.length=(Ej (Ah al) row i++wO (Ah al) row i m).length:=(aao k2).symm
   have Sk:=El (Ah al) row i
   have OZ:=Ek (Ah al) row i m
   have hb3:i*row.length≤4000*4000:=Nat.mul_le_mul (by omega) yw
   rw[UZ] at yv
   refine⟨_,rfl,p,dx,_,rfl,s3 _ _ h1,N8 ah l,_,rfl,_,rfl,p,al,row,i,i+1+m,_,_,rfl,S.same s3,ei,ej,Sj _ (List.getElem_mem hj),_,rfl,?_⟩
   have lq:ltAt (Ah al) row i (i+1+m)↔Ah al row[i].nm row[i+1+m].nm:=by
    constructor
    ·rintro⟨a,b,ha,hb,z⟩
     rw[ei] at ha;rw[ej] at hb;cases ha;cases hb
     exact z
    ·exact fun z=>⟨_,_,ei,ej,z⟩
   by_cases hc:Ah al row[i].nm row[i+1+m].nm
   ·rw[XU hc]
    exact kA ⟨_,vs,rfl,s3,k1,by rw[FC _ _ _ _ (lq.mpr hc)];exact k2⟩
   ·rw[aah hc]
    refine mG ?_
    refine⟨_,rfl,.inl ⟨rfl,_,hV.of k1⟩,_,rfl,_,rfl,L2.jQ,fun t ht=>?_⟩
    have YT:r≠t:=gb k1 ht
    refine⟨r,vs,_,rfl,rfl,by rw[d_ YT];exact k1,by omega,?_⟩
    refine⟨_,vs++[.ref t],rfl,(s3.new ht).upd qB,b_,?_⟩
    rw[Hw _ _ _ _ (fun z=>hc (lq.mp z)),←aaS]
    refine iD (Paired.kS k2 fun a v ⟨b,e,hb⟩=>⟨b,e,?_⟩) ⟨t,rfl,?_⟩
    ·rw[d_ (i9 hb k1 (by intro z;cases z)),d_ (gb hb ht)];exact hb
    ·rw[d_ YT.symm,b_]
  ·rintro σ H3 ⟨v3,vs,rfl,s3,k1,k2⟩
   exact⟨_,_,vs,rfl,s3,k1,by rw[By];exact k2⟩
 ·rintro σ H2 ⟨v2,v3,vs,rfl,s2,k1,k2⟩
  exact⟨_,rfl,q r H2 vs s2 qB k1 (by rw[JK] at k2;exact k2)⟩
theorem Ea.upd{H:Hp}{v:V}{n:Option Nm}{x:Addr}{o o':HO}(h:Ea H v n)(hx:H x=some o')(ht:∀xs,o'≠.tup xs):Ea (L2.upd H x o) v n:=by
 cases n with
 | none=>exact h
 | some n=>exact kP.upd h hx ht
theorem nu.upd{A:Ad}{H:Hp}{a:Addr}{l:Ln}{x:Addr}{o o':HO}(h:nu A H a l)(hx:H x=some o')(ht:∀xs,o'≠.tup xs)(hi:∀C dx fs,o'≠.ins C dx fs):nu A (L2.upd H x o) a l:=by
 obtain⟨dx,vn,vu,vl,h0,h1,h2,h3⟩:=h
 exact⟨dx,vn,vu,vl,by rw[d_ (i9 h0 hx (fun z=>hi _ _ _ z.symm))];exact h0,h1.upd hx ht,h2.upd hx ht,h3.upd hx ht⟩
theorem zM{A:Ad}{H:Hp}{as:List Addr}{ls:List Ln}(p:Paired (nu A H) as ls){i:Nat}{l:Ln}(h:ls[i]?=some l):∃b,(as.map V.ref)[i]?=some (.ref b)∧nu A H b l:=by
 obtain⟨b,hb,z⟩:=mK p h
 exact⟨b,by rw[aak,hb];rfl,z⟩
noncomputable def AO(p:Pt)(k:Nat):List (Option Nm):=p.i4.map some++(p.ig.take k).flatMap fun l=>[l.up,l.lo]
theorem named_eq(p:Pt):named p=(AO p p.ig.length).filterMap id:=by
 unfold named AO
 rw[aaf,abP,List.filterMap_map]
 congr 1
 ·induction p.i4 with
  | nil=>rfl
  | cons x r ih=>rw[abu];show _=x::_;rw[←ih]
 ·induction p.ig with
  | nil=>rfl
  | cons x r ih=>
   rw[aaA,aaA,abP,ih]
   congr 1
   cases x.up<;>cases x.lo<;>rfl
theorem zN(p:Pt)(k:Nat):(AO p k).length≤p.i4.length+2*k:=by
 unfold AO
 rw[UZ,RK]
 have:∀(ls:List Ln),(ls.flatMap fun l=>[l.up,l.lo]).length=2*ls.length:=fun ls=>by
  induction ls with
  | nil=>rfl
  | cons x r ih=>rw[aaA,UZ,ih];simp only [aae,List.length_nil];omega
 rw[this,aap]
 omega
def Lw(A:Ad):Sp:=fun vs H Q _=>∃(a:Addr)(p:Pt),vs=[.ref a]∧ou A H a p∧wN p.ig.length∧wN p.i4.length∧∀r H',gg H H'→H r=none→zJ H' r (named p)→Q (.ref r) H'
theorem vH(T:Txt mg)(O:Ok K mg A):ik P w K mg base mT 1 A.pH A.pI ["patch"] (Lw A):=by
 refine O.rV.f.q0 ko fun jx A0 outer s H vs Q E hr h=>?_
 obtain⟨a,p,rfl,⟨dx,vf,pu,cu,vo,g1,g2,⟨as,g3,RP⟩,⟨cs,g4,PU⟩,g5⟩,FU,Ey,q⟩:=h
 have hlen:=aao RP
 have EN:=aao PU
 have MJ:p.ig.length≤4000:=FU
 have Kf:p.i4.length≤4000:=Ey
 have sz:sizeLine=16777216:=aaC
 refine⟨_,(de (kX 1 ko (sG uR (by rfl) T.wK abM (a_ (gq (pv 0) rfl) e_)))
   (de (iC aar rfl (ie (gq (pv 0) rfl)) (rm 2 ko) (de (hG (oA aaJ aaQ aaR jW (pv 1) (a_ (gq (pv 2) rfl) e_)))
   (fO (hG (oA aaJ aaQ aaR jW (pv 1) (a_ (gq (pv 2) rfl) e_))))))
   (fO (h_ (p3 pE (fZ kK).names [3] rfl (ie (pv 1)) rfl (by decide+kernel) (fun _ _ _ _=>(iy (i:=3) ko.nd rfl (Or.inl rfl))) (fun _ _ _ _=>⟨_,l_ (i7 (oy (pv 3))),by(try simp only [j6]);rfl⟩) (fun _ _ _ _=>yG (pv 3))))))),?_⟩
 refine EK ?_;intro _ _
 refine⟨_,rfl,a,A.gz,dx,_,_,rfl,g1,O.iZ,O.jw,zI,cu,cs,rfl,.inl (hV.of g4),fun l hl=>?_⟩
 have s1:gg H (upd H l (.lst cs)):=(gg.refl H).new hl
 dsimp only [l6];refine IV ?_;intro _
 let Jv:=fun(i:Nat) (σ:St) (H2:Hp)=>∃(v:Option V)(xs:List V),σ=[rr a,rr l,v,none]∧gg H H2∧H2 l=some (.lst xs)∧Paired (Ea H) xs (AO p i)
 refine⟨_,rfl,a,A.gz,dx,_,_,rfl,s1 _ _ g1,O.iZ,O.jv,zH,pu,rfl,⟨_,hV.of (s1 _ _ g3)⟩,iQ (K:=K) (a:=pu) (xs:=as.map V.ref) Jv
  ⟨none,cs,rfl,s1,b_,?_⟩ (by rintro _ _ _ _ ⟨_,_,_,s2,_⟩;exact hV.of (s2 _ _ g3)) ?_ ?_⟩
 ·unfold AO
  rw[abz,abr,aaN]
  clear EN Kf Ey q g4 s1
  generalize p.i4=ms at PU
  induction PU with
  | nil=>exact .nil
  | cons f t ih=>exact .cons f ih
 ·rintro i v σ H2 hx ⟨v0,xs,rfl,s2,h1,h2⟩
  obtain⟨b,hb,rfl⟩:=j_ hx
  obtain⟨ln,yv,Ky,vn,vu,vl,k1,k2,k3,k4⟩:=ir RP hb
  have hi:i<p.ig.length:=(RO.mp yv).1
  have hxl:xs.length≤p.i4.length+2*i:=by rw[aao h2];exact zN p i
  have e:AO p (i+1)=AO p i++[ln.up]++[ln.lo]:=by
   unfold AO
   rw[take_snoc yv,aa1,aaA,abr,aaS,aaS]
   rfl
  refine⟨_,rfl,.inl ⟨rfl,_,hV.of h1⟩,_,rfl,b,A.g_,Ky,_,_,rfl,s2 _ _ k1,O.iG,O.iz,Ci,l,_,_,rfl,rfl,h1,by omega,?_⟩
  have s3:gg H (upd H2 l (.lst (xs++[vu]))):=s2.upd hl
  refine⟨_,rfl,.inl ⟨rfl,_,hV.of b_⟩,_,rfl,b,A.g_,Ky,_,_,rfl,s3 _ _ k1,O.iG,O.iA,Cj,l,_,_,rfl,rfl,b_,by rw[UZ];show xs.length+1<_;omega,?_⟩
  refine⟨_,_,rfl,s3.upd hl,b_,?_⟩
  rw[e]
  exact iD (iD h2 k3) k4
 ·rintro σ H2 ⟨v0,xs,rfl,s2,h1,h2⟩
  have e0:(as.map V.ref).length=p.ig.length:=by rw[RK,hlen]
  rw[e0] at h2
  have hxl:xs.length≤p.i4.length+2*p.ig.length:=by rw[aao h2];exact zN p _
  refine⟨_,rfl,l,rfl,⟨_,hV.of h1⟩,jE (K:=K) (a:=l) (xs:=xs) (by omega) (fun i ys σ H4=>∃(v3:Option V),σ=[rr a,rr l,v0,v3]∧H4=H2∧ys.length≤i∧Paired (kP H) ys (((AO p p.ig.length).take i).filterMap id))
   ⟨none,rfl,rfl,U0 _,.nil⟩ (by rintro _ _ _ _ _ ⟨_,_,e,e3,_⟩;subst e;exact⟨hV.of h1,e3⟩) ?_ ?_⟩
  ·rintro i v ys σ H4 hx ⟨v3,rfl,rfl,e3,h6⟩
   obtain⟨o,ho,hv⟩:=ir h2 hx
   refine⟨_,rfl,_,rfl,?_⟩
   rw[take_snoc ho,abP]
   cases o with
   | none=>
    rw[show v=V.jn from hv]
    exact⟨_,rfl,rfl,by omega,by simpa using h6⟩
   | some m=>
    obtain⟨t,rfl,ht⟩:=(show kP H v m from hv)
    exact⟨_,rfl,_,rfl,rfl,Mn,iD h6 ⟨t,rfl,ht⟩⟩
  ·rintro ys σ H4 ⟨v3,rfl,rfl,e3,h6⟩ r qB
   rw[aao h2,aaf,←named_eq] at h6
   have s5:=s2.new (o:=.lst ys) qB
   exact q r _ s5 (s2.free qB) ⟨ys,b_,Paired.kS h6 fun _ _ z=>z.same s5⟩
def N9(A:Ad):Sp:=fun vs H Q _=>∃(a:Addr)(p:Pt),vs=[.ref a]∧ou A H a p∧wN p.ig.length∧wN p.i4.length∧∀r H',gg H H'→H r=none→H' r=some (.lst (gh (il p)))→Q (.ref r) H'
theorem Bz(p:Pt):(named p).length≤p.i4.length+2*p.ig.length:=by
 rw[named_eq]
 exact aad (List.length_filterMap_le _ _) (zN p _)
theorem su(T:Txt mg)(O:Ok K mg A):ik P w K mg base mT 2 A.nA A.nB ["patch"] (N9 A):=by
 have wZ:=@vH P w K mg base A T O
 refine O.oX.f.q0 kD fun jx A0 outer s H vs Q E hr h=>?_
 obtain⟨a,p,rfl,pa,FU,Ey,q⟩:=h
 obtain⟨dx,vf,pu,cu,vo,g1,g2,g3,g4,g5⟩:=id pa
 have MJ:p.ig.length≤4000:=FU
 have Kf:p.i4.length≤4000:=Ey
 have sz:sizeLine=16777216:=aaC
 have MG:=Bz p
 refine⟨_,(de (BU (j:=1) nz (fZ jS).names [2] kD.nd rfl rfl rfl (ie (rl O.rV wZ hr (a_ (pv 0) e_))) rfl (by decide+kernel) (fun _ _ _ _=>(iy (i:=2) kD.nd rfl (Or.inl rfl))) (fun _ _ _ _=>⟨_,l_ (ip Gh (jO mR (pv 2) f_ (fun _ _=>rfl)) (gq (pv 0) rfl) (iN _)),by(try simp only [j6]);rfl⟩) (fun _ _ _ _=>yG (jO mR (pv 2) f_ (fun _ _=>rfl))))
   (de (iE (i7 (oy (gq (pv 0) rfl))) (fO (hG (oA aaJ aaQ aaR jW (pv 1) (a_ (gq (pv 0) rfl) e_)))) ia)
   (fO (h_ (pv 1))))),?_⟩
 refine EK ?_;intro _ _
 refine⟨_,rfl,a,p,rfl,pa,FU,Ey,fun n H1 s1 YU ⟨ns,YV,OI⟩=>?_⟩
 have Wk:=aao OI
 let Jv:=fun(i:Nat) (ys:List V) (σ:St) (H4:Hp)=>∃(v2:Option V)(zs:List Str),σ=[rr a,none,v2]∧H4=H1∧ys=gh zs∧zs.length≤i∧zs=(((named p).take i).filter fun n=>n.1≠p.nm).map (·.1)
 refine⟨n,rfl,⟨_,hV.of YV⟩,jE (K:=K) (a:=n) (xs:=ns) (by omega) Jv
  ⟨none,[],rfl,rfl,rfl,U0 _,rfl⟩ (by rintro _ _ _ _ _ ⟨_,zs,_,e,e2,e3,_⟩;subst e e2;exact⟨hV.of YV,by rw[RK];exact e3⟩) ?_ ?_⟩
 ·rintro i v ys σ H4 hx ⟨v2,zs,rfl,rfl,rfl,e3,e4⟩
  obtain⟨m,hm,t,rfl,ht⟩:=ir OI hx
  have Wl:E9 ((nk m).map kV) 0=some (V.str m.1):=iF (j:=0) rfl rfl
  refine⟨_,rfl,t,_,0,_,rfl,rfl,pk.of ht,Wl,_,rfl,a,A.gz,dx,_,_,rfl,s1 _ _ g1,O.iZ,O.iY,sd,rfl,_,rfl,?_⟩
  have ed:decide (V.str m.1=V.str p.nm)=decide (m.1=p.nm):=by
   by_cases e:m.1=p.nm
   ·rw[XU e,XU (aa5 V.str e)]
   ·rw[aah e,aah fun z=>e (V.str.inj z)]
  rw[ed]
  subst e4
  by_cases e:m.1=p.nm
  ·rw[XU e]
   refine kA ⟨_,_,rfl,rfl,rfl,by omega,?_⟩
   rw[take_snoc hm,aaM,aaj (by simpa using e)]
   simp
  ·rw[aah e]
   refine mG ⟨_,rfl,t,_,0,_,rfl,rfl,pk.of ht,Wl,_,_,rfl,rfl,iK _ _,by rw[UZ];show _+1≤_;omega,?_⟩
   rw[take_snoc hm,aaM,XZ (by simpa using e)]
   simp
 ·rintro ys σ H4 ⟨v2,zs,rfl,rfl,rfl,e3,e4⟩ r qB
  rw[Wk,aaf] at e4
  have s5:=s1.new (o:=.lst (gh zs)) qB
  refine⟨_,rfl,a,A.gz,dx,_,_,rfl,s5 _ _ g1,O.iZ,O.iR,pW,_,rfl,?_⟩
  unfold il at q
  rw[←e4] at q
  cases ho:p.other with
  | none=>
   rw[ho] at g5 q
   rw[show vo=V.jn from g5]
   exact⟨_,rfl,q r _ s5 (s1.free qB) (by rw[b_];simp)⟩
  | some x=>
   rw[ho] at g5 q
   rw[show vo=V.str x from g5] at g1 ⊢
   refine⟨_,rfl,.inl ⟨rfl,_,hV.of b_⟩,_,rfl,a,A.gz,dx,_,_,rfl,s5 _ _ g1,O.iZ,O.iR,pW,r,_,_,rfl,rfl,b_,by rw[RK];omega,?_⟩
   exact⟨_,rfl,q r _ (s5.upd (s1.free qB)) (s1.free qB) (by rw[b_];show _=some (HO.lst (gh (zs++[x])));rw[←iK])⟩
def QY(H:Hp)(a:Addr)(kn:Nat→Option Nm):Prop:=∃kvs:List (Key×V),H a=some (.dK kvs)∧∀s:Nat,match kn s with|some m=>∃v,iO kvs (Sum.inl (s:Int))=some v∧kP H v m|none=>iO kvs (Sum.inl (s:Int))=none
def U8:Sp:=fun vs H Q _=>∃(a:Addr)(n:Nat)(kn:Nat→Option Nm),vs=[.ref a,.int n]∧QY H a kn∧n≤4000∧∀p H' xs,gg H H'→H p=none→H' p=some (.lst xs)→xs.length=n→(∀i v,xs[i]?=some v→Ea H v (Lf kn (n-1-i) i))→Q (.ref p) H'
theorem zO(T:Txt mg)(O:Ok K mg A):ik P w K mg base mT 1 A.tJ A.tK ["kept_names","size"] U8:=by
 refine O.ya.f.q0 n6 fun jx A0 outer s H vs Q E hr h=>?_
 obtain⟨a,n,kn,rfl,⟨kvs,h1,h2⟩,hn,q⟩:=h
 have sz:sizeLine=16777216:=aaC
 refine⟨_,(de (kX 2 n6 (gm Ff (i8 (a_ tW e_)) (pv 1)))
   (de (iC aar rfl (we rfl T.nK (a_ (gm BK (pv 1) f_) (a_ (xf ra f_) (a_ (xf ra f_) e_)))) (rm 3 n6) (fO (BJ (IE (by exact iI hr) (pv 0) (gm iJ (pv 3) f_) (Az (pv 2) (gm iJ (pv 3) f_)) ⟨rfl,rfl,rfl,rfl⟩) (BI (pv 2) (pv 3) set_list))))
   (fO (h_ (pv 2))))),?_⟩
 refine EK ?_;intro _ _
 refine⟨L2.jQ,fun l hl=>?_⟩
 refine⟨_,rfl,l,_,_,rfl,rfl,b_,by omega,by omega,by simp;omega,fun p hp=>?_⟩
 have o3:p≠l:=fun z=>by rw[z,b_] at hp;cases hp
 have FT:H p=none:=by rw[d_ o3] at hp;exact hp
 have e0:(List.replicate (n:Int).toNat [V.jn]).flatten=List.replicate n V.jn:=by
  rw[abW]
  clear q hn
  induction n with
  | zero=>rfl
  | succ n ih=>rw[aba,abX,ih,aba];rfl
 rw[e0]
 have s1:gg H (upd (upd H l (.lst [V.jn])) p (.lst (List.replicate n V.jn))):=((gg.refl H).upd hl).upd FT
 refine⟨_,rfl,_,_,rfl,rfl,_,rfl,_,rfl,_,_,rfl,⟨by omega,by omega,by omega,by omega⟩,?_⟩
 rw[show((n:Int)-2 - -1).toNat=n-1 by omega]
 let Jv:=fun(m:Nat) (σ:St) (H2:Hp)=>∃(v:Option V)(xs:List V),σ=[rr a,ri n,rr p,v]∧gg H H2∧H2 p=some (.lst xs)∧xs.length=n∧∀i v,xs[i]?=some v→n-1≤i+m→Ea H v (Lf kn (n-1-i) i)
 refine t_ Jv ⟨none,_,rfl,s1,b_,by simp,fun i v hv hi=>?_⟩ ?_ ?_
 ·have lq:i<n:=by have:=(RO.mp hv).1;simpa using this
  have:v=V.jn:=by
   have:=VI hv
   exact List.eq_of_mem_replicate this
  rw[this,show n-1-i=0 by omega]
  exact rfl
 ·rintro m σ H2 hm ⟨v0,xs,rfl,s2,k1,k2,k3⟩
  obtain⟨j,hj⟩:∃j,j+m+2=n:=⟨n-2-m,by omega⟩
  rw[show(n:Int)-2+(m:Int) * -1=(j:Int) by omega]
  have hx:xs[j+1]?=some xs[j+1]:=VN (by omega)
  refine⟨_,rfl,a,rfl,.inl ⟨_,.inl (s2 _ _ h1)⟩,_,rfl,_,_,rfl,rfl,_,rfl,_,rfl,_,_,rfl,rfl,p,_,_,_,rfl,rfl,hV.of k1,iF (j:=j+1) (by omega) hx,_,iT.k (k:=Sum.inl ((j:Int)+1)) (s2 _ _ h1),?_⟩
  refine⟨_,rfl,_,rfl,p,_,_,j,rfl,rfl,k1,BX rfl (by omega),?_⟩
  refine⟨_,_,rfl,s2.upd FT,b_,by rw[ack];exact k2,fun i v hv hi=>?_⟩
  by_cases e:i=j
  ·subst e
   rw[abg (by omega)] at hv
   have hv:=aaD hv
   rw[←hv,show n-1-i=(n-1-(i+1))+1 by omega]
   unfold Lf
   have h3:=h2 (i+1)
   rw[show((i+1:Nat):Int)=(i:Int)+1 by omega] at h3
   cases hk:kn (i+1) with
   | none=>
    rw[hk] at h3
    rw[h3]
    exact k3 (i+1) _ hx (by omega)
   | some mm=>
    rw[hk] at h3
    obtain⟨u,z1,z2⟩:=h3
    rw[z1]
    exact z2
  ·rw[abo (fun z=>e z.symm)] at hv
   exact k3 i v hv (by omega)
 ·rintro σ H2 ⟨v0,xs,rfl,s2,k1,k2,k3⟩
  exact⟨_,rfl,q p H2 xs s2 FT k1 k2 fun i v hv=>k3 i v hv (by omega)⟩
def U9(K:Qqy)(A:Ad):Sp:=fun vs H Q _=>∃(x:Str)(t a:Addr)(texts:List Str)(kn:Nat→Option Nm),vs=[.str x,.ref t,.ref a]∧hV K H t (gh texts)∧(∀H',gg H H'→hV K H' t (gh texts))∧QY H a kn∧texts.length≤4000∧∀p H',gg H H'→H p=none→qv A H' p (kC x texts kn)→Q (.ref p) H'
theorem Ct(T:Txt mg)(O:Ok K mg A):ik P w K mg base mT 3 A.xF A.xG ["patch","texts","kept_names"] (U9 K A):=by
 have AX:=@zO P w K mg base A T O
 have yx:=@Cs P w K mg base A T O
 refine O.Bn.f.q0 jH fun jx A0 outer s H vs Q E hr h=>?_
 obtain⟨x,t,a,texts,kn,rfl,_,ht,YW,hn,q⟩:=h
 have sz:sizeLine=16777216:=aaC
 have et:((gh texts).length:Int)=(texts.length:Int):=by simp
 obtain⟨kvs,h1,h2⟩:=id YW
 refine⟨_,(de (kX 3 jH (rl O.ya AX hr (a_ (pv 2) (a_ (hZ gn (by rfl) T.jP aay (a_ (pv 1) e_)) e_))))
   (de (kX 4 jH (i8 e_))
   (de (kX 5 jH tW)
   (de (iC aar rfl (La rfl T.D1 (a_ (pv 1) e_)) (Ih rfl (uI (rm 6 jH) (uI (rm 7 jH) Gd))) (fO (iE (i7 (mS (by exact iI hr) (pv 6) (pv 2))) (fO (kX 5 jH (xp hr (pv 2) (pv 6)))) (de (hG (oA aaJ aaQ aaR jW (pv 4) (a_ (uN O.NV yx (hr.mono (by decide)) (by rfl) O.NW O.tN.b .nil oC (a_ (vZ (a_ (pv 0) (a_ (hZ gn (by rfl) T.jP aay (a_ (pv 4) e_)) e_))) (a_ (pv 7) (a_ (pv 5) (a_ (Az (pv 3) (pv 6)) e_))))) e_)))
   (fO (kX 5 jH (gq (Az (pv 4) (xf ra f_)) rfl)))))))
   (fO (h_ (pv 4))))))),?_⟩
 refine NH ?_;intro _ _ _ _
 refine⟨_,rfl,_,rfl,t,_,rfl,.inl (ht H (gg.refl H)),?_⟩
 rw[et]
 refine⟨a,texts.length,kn,rfl,YW,hn,fun b H1 bs s1 MK Sk Mz R0=>?_⟩
 refine⟨L2.jQ,fun l hl=>?_⟩
 have VO:H l=none:=s1.free hl
 have s2:gg H1 (upd H1 l (.lst [])):=(gg.refl H1).new hl
 refine⟨_,rfl,t,rfl,⟨_,ht _ (s1.trans s2)⟩,Jk (K:=K) (a:=t) (xs:=gh texts) (fun i σ H2=>∃(v6 v7:Option V)(vu:V)(u:Option Nm)(as:List Addr)(acc:List Ln),σ=[rs x,rr t,rr a,rr b,rr l,some vu,v6,v7]∧gg H1 H2∧H2 l=some (.lst (as.map V.ref))∧Paired (nu A H2) as acc∧acc.length≤i∧Ea H2 vu u∧acc++sY x kn i acc.length u (texts.drop i)=kC x texts kn)
  ⟨none,none,.jn,none,[],[],rfl,s2,b_,.nil,U0 _,rfl,rfl⟩ (by rintro _ _ _ _ ⟨_,_,_,_,_,_,_,s3,_⟩;exact ht _ (s1.trans s3)) ?_ ?_⟩
 ·rintro i tv e σ H2 hx ⟨v6,v7,vu,u,as,acc,rfl,s3,k1,k2,k3,k4,k5⟩ he
  obtain⟨tx,YX,rfl⟩:=jR hx
  have hi:i<texts.length:=(RO.mp YX).1
  have hd:texts.drop i=tx::texts.drop (i+1):=by rw[aaT hi];congr 1;exact(RO.mp YX).2
  have s4:gg H2 (upd H2 e (.tup [.int i,.str tx])):=(gg.refl H2).new he
  have ML:=s3.trans s4
  rw[hd] at k5
  unfold sY at k5
  refine⟨e,_,rfl,pk.of b_,rfl,_,_,rfl,_,_,rfl,rfl,?_⟩
  refine⟨_,rfl,_,rfl,a,_,rfl,iT.k (k:=Sum.inl (i:Int)) (ML _ _ (s1 _ _ h1)),_,rfl,?_⟩
  have h3:=h2 i
  cases hk:kn i with
  | some m=>
   rw[hk] at h3 k5
   obtain⟨u',z1,z2⟩:=h3
   rw[z1]
   refine mG ⟨_,rfl,_,rfl,a,u',rfl,?_,?_⟩
   ·have:=iT.k (k:=Sum.inl (i:Int)) (ML _ _ (s1 _ _ h1))
    rw[z1] at this
    exact this
   ·exact⟨_,_,_,some m,as,acc,rfl,ML,s4 _ _ k1,Paired.kS k2 fun _ _ z=>z.same s4,by omega,(z2.same s1).same ML,k5⟩
  | none=>
   rw[hk] at h3 k5
   rw[h3]
   have Sj:=aao k2
   have el:((as.map V.ref).length:Int)=(acc.length:Int):=by rw[RK,Sj]
   refine kA ⟨_,rfl,.inl ⟨rfl,_,hV.of (s4 _ _ k1)⟩,_,rfl,_,rfl,l,_,rfl,.inl (hV.of (s4 _ _ k1)),?_⟩
   rw[el]
   refine⟨L2.jQ,fun nt YY=>?_⟩
   have s5:=ML.new (o:=.tup [.str x,.int acc.length]) YY
   obtain⟨bv,YZ⟩:∃bv,bs[i]?=some bv:=⟨_,VN (by omega)⟩
   refine⟨_,rfl,_,rfl,_,rfl,_,rfl,b,_,_,_,rfl,rfl,hV.of (s5 _ _ Sk),iF rfl YZ,?_⟩
   intro o dx no O4 Wm
   have Wn:gg (upd (upd H2 e (.tup [.int i,.str tx])) nt (.tup [.str x,.int acc.length])) (upd (upd (upd (upd H2 e (.tup [.int i,.str tx])) nt (.tup [.str x,.int acc.length])) dx (.own o)) o (.ins A.g_ dx [])):=fun c u e=>by
    rw[d_ (gb e no),d_ (gb e O4)]
    exact e
   refine⟨o,dx,_,_,_,_,rfl,b_,fun H6 r6 r7=>⟨rfl,?_⟩⟩
   have s6:gg (upd (upd H2 e (.tup [.int i,.str tx])) nt (.tup [.str x,.int acc.length])) H6:=fun c u ec=>by
    rw[r6 c (gb ec no)]
    exact Wn c u ec
   have Sl:gg H2 H6:=(s4.new YY).trans s6
   have Sm:=Sl _ _ k1
   have KO:nu A H6 o ⟨(x,acc.length),tx,u,Lf kn (texts.drop (i+1)).length i⟩:=⟨dx,.ref nt,vu,bv,r7,⟨nt,rfl,s6 _ _ b_⟩,k4.same Sl,by
    have:=R0 i bv YZ
    rw[List.length_drop,show texts.length-(i+1)=texts.length-1-i by omega]
    exact(this.same s1).same (s3.trans Sl)⟩
   refine⟨l,_,_,rfl,rfl,Sm,by rw[RK];omega,?_⟩
   have lo:l≠o:=fun z=>by rw[z,r7] at Sm;cases Sm
   have e7:upd H6 l (.lst (as.map V.ref++[V.ref o])) l=some (.lst ((as++[o]).map V.ref)):=by rw[b_,aau];rfl
   have up:∀c ln,nu A H6 c ln→nu A (upd H6 l (.lst (as.map V.ref++[V.ref o]))) c ln:=fun c ln z=>z.upd Sm (fun _ z=>by cases z) (fun _ _ _ z=>by cases z)
   have r77:upd H6 l (.lst (as.map V.ref++[V.ref o])) o=some (.ins A.g_ dx (Lm (.ref nt) (.str tx) vu bv)):=by rw[d_ lo.symm];exact r7
   refine⟨_,rfl,_,rfl,l,_,_,_,rfl,rfl,hV.of b_,Dq _ _,o,A.g_,dx,_,_,rfl,r77,O.iG,O.hE,i0,?_⟩
   refine⟨_,_,_,some (x,acc.length),as++[o],acc++[⟨(x,acc.length),tx,u,Lf kn (texts.drop (i+1)).length i⟩],rfl,(s3.trans Sl).upd hl,e7,?_,Mn,?_,?_⟩
   ·exact iD (Paired.kS k2 fun c ln z=>up c ln (z.same Sl)) (up _ _ KO)
   ·exact kP.upd ⟨nt,rfl,s6 _ _ b_⟩ Sm (fun _ z=>by cases z)
   ·rw[aaS,UZ]
    exact k5
 ·rintro σ H2 ⟨v6,v7,vu,u,as,acc,rfl,s3,k1,k2,k3,k4,k5⟩
  rw[show(gh texts).length=texts.length by simp,acj] at k5
  rw[show sY x kn texts.length acc.length u []=[] from rfl,aaN] at k5
  rw[k5] at k2
  exact⟨_,rfl,q l H2 (s1.trans s3) VO ⟨as,k1,k2⟩⟩
theorem GF{row:List Ln}{q:Nat×Nat}:∀{xs:List (Nat×Nat)},q.2∉xs.map (·.2)→∀s,mX row (xs++[q]) s=if q.2=s then(row[q.1]?).map (·.nm) else mX row xs s
 | [],_,s=>rfl
 | x::r,h,s=>by
  rw[aaw] at h
  have h1:q.2≠x.2:=fun z=>h (by rw[z];exact aav)
  have h2:q.2∉r.map (·.2):=fun z=>h (aal _ z)
  show(if x.2=s then _ else mX row (r++[q]) s)=if q.2=s then _ else(if x.2=s then _ else mX row r s)
  by_cases e:x.2=s
  ·rw[aas e,aan (fun z=>h1 (by rw[z,e])),aas e]
  ·rw[aan e,aan e,GF h2 s]
theorem Hx{row:List Ln}{q:Nat×Nat}{l:Ln}(xs:List (Nat×Nat))(h:row[q.1]?=some l):ub row (xs++[q])=ub row xs++[l.nm]:=by
 unfold ub
 rw[abP,abu,h]
 rfl
theorem JL(T:Txt mg)(O:Ok K mg A):ik P w K mg base mT 3 A.Ju A.Jw ["old","new"] Kp.X8:=
 Kp.Lu O.kept.f ⟨T.jP,T.nK,T.QH⟩ O.rS.f O.rS.b O.rS.m O.uh.f O.uh.b O.uh.m O.ui.f O.ui.b O.ui.m
def QZ(A:Ad):Sp:=fun vs H Q _=>∃(x f:Str)(r t:Addr)(row:List Ln)(texts:List Str),vs=[.str x,.str f,.ref r,.ref t]∧qv A H r row∧H t=some (.lst (gh texts))∧row.length≤1000∧texts.length≤1000∧
 ∀p H',gg H H'→H p=none→ou A H' p (mI x f row texts)→Q (.ref p) H'
theorem vI(T:Txt mg)(O:Ok K mg A):ik P w K mg base mT 4 A.pQ A.pR ["patch","file","row","texts"] (QZ A):=by
 have O5:=@JL P w K mg base A T O
 have Ez:=@Ct P w K mg base A T O
 have j2:=@o9 P w K mg base A T O
 refine O.r9.f.q0 iP fun jx A0 outer s H vs Q E hr h=>?_
 obtain⟨x,f,r,t,row,texts,rfl,Ew,ht,hn,hm,q⟩:=h
 obtain⟨as,EA,EO⟩:=id Ew
 have hlen:=aao EO
 have sz:sizeLine=16777216:=aaC
 refine⟨_,(de (kX 4 iP lI)
   (de (lE (i:=5) iP.nd rfl (Or.inr rfl) mF)
   (de (iC aar rfl (ie (rl O.kept O5 hr (a_ (xn mq (fZ jZ).names [9] rfl (ie (pv 2)) rfl (by decide+kernel) (fun _ _ _ _=>(iy (i:=9) iP.nd rfl (Or.inl rfl))) (fun _ _ _ _=>mU) (fun _ _ _ _=>yG (gq (pv 9) rfl))) (a_ (pv 3) e_)))) (Ih rfl (uI (rm 6 iP) (uI (rm 7 iP) Gd))) (de (jc (by exact iI hr) (pv 4) (pv 7) (gq (Az (pv 2) (pv 6)) rfl) rfl)
   (fO (jc (by exact iI hr) (pv 5) (gq (Az (pv 2) (pv 6)) rfl) lD rfl))))
   (de (BU (j:=8) mq (fZ jZ).names [9] iP.nd rfl rfl rfl (ie (pv 2)) rfl (by decide+kernel) (fun _ _ _ _=>(iy (i:=9) iP.nd rfl (Or.inl rfl))) (fun _ _ _ _=>⟨_,l_ (i7 (kG (by exact iI hr) (gq (pv 9) rfl) (pv 5))),by(try simp only [j6]);rfl⟩) (fun _ _ _ _=>yG (gq (pv 9) rfl)))
   (fO (h_ (uN O.Ce j2 (hr.mono (by decide)) (by rfl) O.Cf O.lW.b .nil oC (a_ (pv 0) (a_ (pv 1) (a_ (rl O.Bn Ez hr (a_ (pv 0) (a_ (pv 3) (a_ (pv 4) e_)))) (a_ (pv 8) (a_ tW e_)))))))))))),?_⟩
 refine NH ?_;intro _ _ _ _
 intro k P1 g TL
 have Wo:k≠g:=fun z=>by rw[←z,b_] at TL;cases TL
 have Y0:H g=none:=(gg.refl H |>.new (o:=.dK []) P1).free TL
 have s1:gg H (upd (upd H k (.dK [])) g (.dT [])):=((gg.refl H).new P1).new TL
 have Sn:(upd (upd H k (.dK [])) g (.dT [])) k=some (.dK []):=by rw[d_ Wo];exact b_
 have PH:(upd (upd H k (.dK [])) g (.dT [])) g=some (.dT []):=b_
 generalize upd (upd H k (.dK [])) g (.dT [])=H1 at s1 Sn PH
 have O0:(as.map V.ref).length≤sizeLine:=by rw[RK,hlen];omega
 let Jv:=fun(i:Nat) (ys:List V) (σ:St) (H4:Hp)=>∃(v9:Option V),σ=[rs x,rs f,rr r,rr t,rr k,rr g,none,none,none,v9]∧H4=H1∧ys=gh ((row.take i).map (·.tx))
 refine⟨_,rfl,r,rfl,⟨_,hV.of (s1 _ _ EA)⟩,jE (K:=K) (a:=r) (xs:=as.map V.ref) O0 Jv
  ⟨none,rfl,rfl,rfl⟩ (by rintro _ _ _ _ _ ⟨_,_,e,e2⟩;subst e e2;exact⟨hV.of (s1 _ _ EA),by rw[RK,RK,aap];omega⟩) ?_ ?_⟩
 ·rintro i v ys σ H4 hx ⟨v9,rfl,rfl,rfl⟩
  obtain⟨b,hb,rfl⟩:=j_ hx
  obtain⟨ln,yv,dx,vn,vu,vl,k1,k2,k3,k4⟩:=ir EO hb
  refine⟨_,rfl,b,A.g_,dx,_,_,rfl,s1 _ _ k1,O.iG,O.js,vC,_,rfl,rfl,?_⟩
  rw[take_snoc yv,aau,iK]
  rfl
 ·rintro ys σ H4 ⟨v9,rfl,rfl,rfl⟩ o TM
  rw[RK,hlen,aaf]
  have s2:gg H4 (upd H4 o (.lst (gh (row.map (·.tx))))):=(gg.refl H4).new TM
  refine⟨_,rfl,row.map (·.tx),texts,o,t,rfl,b_,s2 _ _ (s1 _ _ ht),by rw[RK];exact hn,hm,fun pr H5 ps s5 HQ So O6=>?_⟩
  have Sq:gg H4 H5:=s2.trans s5
  have Y1:gg H H5:=s1.trans Sq
  have rise:=sM (row.map (·.tx)) texts
  rw[RK] at rise
  have Wq:(K01.kept (row.map (·.tx)) texts).length≤1000:=by
   rw[K01.xq]
   have:=K01.DL (row.map (·.tx)) texts
   rw[RK] at this
   omega
  generalize hqs:K01.kept (row.map (·.tx)) texts=qs at O6 rise Wq
  have MH:=aao O6
  let Jv:=fun(i:Nat) (σ:St) (H6:Hp)=>∃(v6 v7:Option V)(kk:List (Key×V))(kg:List (List Key×V)),σ=[rs x,rs f,rr r,rr t,rr k,rr g,v6,v7,none,none]∧(∀b o,H5 b=some o→b≠k→b≠g→H6 b=some o)∧H6 k=some (.dK kk)∧kk.length≤i∧(∀s:Nat,match mX row (qs.take i) s with|some m=>∃v,iO kk (Sum.inl (s:Int))=some v∧kP H v m|none=>iO kk (Sum.inl (s:Int))=none)∧H6 g=some (.dT kg)∧kg.length≤i∧Py kg (ub row (qs.take i))
  refine⟨pr,rfl,⟨_,hV.of So⟩,iQ (K:=K) (a:=pr) (xs:=ps) Jv
   ⟨none,none,[],[],rfl,fun b o e _ _=>e,Sq _ _ Sn,U0 _,(fun s=>by rw[abz];exact rfl),Sq _ _ PH,U0 _,(fun n=>rfl)⟩ (by rintro _ _ _ _ ⟨_,_,_,_,_,e,_⟩;exact hV.of (e _ _ So (fun z=>by rw[z] at HQ;rw[s2 _ _ Sn] at HQ;cases HQ) (fun z=>by rw[z] at HQ;rw[s2 _ _ PH] at HQ;cases HQ))) ?_ ?_⟩
  ·rintro i v σ H6 hx ⟨v6,v7,kk,kg,rfl,e1,e2,e3,e4,e5,e6,e7⟩
   obtain⟨qq,hq,pt,rfl,ER⟩:=mK O6 hx
   have Wr:H5 k=some (.dK []):=Sq _ _ Sn
   have Ws:H5 g=some (.dT []):=Sq _ _ PH
   have hi:i<qs.length:=(RO.mp hq).1
   obtain⟨Sk,OZ⟩:=rise.2 qq (VI hq)
   obtain⟨b,TK,Y2⟩:=zM EO (VN Sk)
   have EM:row[qq.1]?=some row[qq.1]:=VN Sk
   generalize row[qq.1]=ln at Y2 EM
   obtain⟨dx,vn,vu,vl,z1,⟨nt,rfl,z2⟩,z3,z4⟩:=Y2
   have up:∀{b o},H b=some o→H6 b=some o:=fun{b o} e=>e1 b o (Y1 _ _ e) (fun z=>by rw[z,P1] at e;cases e) (fun z=>by rw[z,Y0] at e;cases e)
   refine⟨pt,_,rfl,pk.of (e1 _ _ ER (i9 ER Wr (fun z=>by cases z)) (i9 ER Ws (fun z=>by cases z))),rfl,_,_,rfl,_,_,rfl,rfl,?_⟩
   refine⟨_,rfl,_,rfl,r,_,_,_,rfl,rfl,hV.of (up EA),iF rfl TK,b,A.g_,dx,_,_,rfl,up z1,O.iG,O.hE,i0,_,rfl,_,rfl,k,_,rfl,l9.k (k:=Sum.inl (qq.2:Int)) e2 (by omega),?_⟩
   have Wt:∀{b o},H b=some o→upd H6 k (.dK (putK kk (Sum.inl (qq.2:Int)) (V.ref nt))) b=some o:=fun{b o} e=>by rw[d_ (fun z=>by rw[z,P1] at e;cases e)];exact up e
   have VG:=ju kk (Sum.inl (qq.2:Int):Key) (V.ref nt)
   have HK:=ju kg (nk ln.nm) (V.bl true)
   refine⟨_,rfl,_,rfl,_,rfl,r,_,_,_,rfl,rfl,hV.of (Wt EA),iF rfl TK,b,A.g_,dx,_,_,rfl,Wt z1,O.iG,O.hE,i0,g,_,rfl,l9.t (k:=nk ln.nm) (by rw[d_ Wo.symm];exact e5) (Wt z2) (by omega),?_⟩
   have HR:qq.2∉(qs.take i).map (·.2):=fun z=>by
    obtain⟨w1,hw1,ew⟩:=aaH.mp z
    obtain⟨j,hj⟩:=aaP.mp hw1
    have FR:j<i:=by have:=(RO.mp hj).1;rw[aap] at this;omega
    rw[abD,aas FR] at hj
    obtain⟨hj1,hj2⟩:=RO.mp hj
    have:=abS.mp rise.1 j i hj1 hi FR
    rw[hj2,(RO.mp hq).2] at this
    omega
   refine⟨_,_,_,_,rfl,fun b o e nk ng=>?_,by rw[d_ Wo];exact b_,by omega,fun s=>?_,b_,by omega,?_⟩
   ·rw[d_ ng,d_ nk];exact e1 b o e nk ng
   ·rw[take_snoc hq,GF HR,jY]
    by_cases es:qq.2=s
    ·subst es
     rw[aas rfl,aas rfl,EM]
     exact⟨_,rfl,nt,rfl,z2⟩
    ·rw[aan es,aan (fun z=>es (by have:=Sum.inl.inj z;omega))]
     exact e4 s
   ·rw[take_snoc hq,Hx _ EM]
    exact e7.put ln.nm _
  ·rintro σ H6 ⟨v6,v7,kk,kg,rfl,e1,e2,e3,e4,e5,e6,e7⟩
   rw[←MH,aaf] at e4 e7
   have up:∀{b o},H b=some o→H6 b=some o:=fun{b o} e=>e1 b o (Y1 _ _ e) (fun z=>by rw[z,P1] at e;cases e) (fun z=>by rw[z,Y0] at e;cases e)
   have sH6:gg H H6:=fun b o e=>up e
   refine⟨_,rfl,r,rfl,⟨_,hV.of (up EA)⟩,jE (K:=K) (a:=r) (xs:=as.map V.ref) O0 (fun i ys σ H4=>∃(v9:Option V),σ=[rs x,rs f,rr r,rr t,rr k,rr g,v6,v7,none,v9]∧H4=H6∧ys.length≤i∧Paired (kP H) ys (((row.take i).filter fun l=>l.nm∉ub row qs).map (·.nm)))
    ⟨none,rfl,rfl,U0 _,.nil⟩ (by rintro _ _ _ _ _ ⟨_,_,e,e20,_⟩;rw[e];exact⟨hV.of (up EA),e20⟩) ?_ ?_⟩
   ·rintro i v ys σ H7 hx ⟨v9,rfl,rfl,e8,e9⟩
    obtain⟨b,hb,rfl⟩:=j_ hx
    obtain⟨ln,yv,dx,vn,vu,vl,k1,⟨nt,rfl,k2⟩,k3,k4⟩:=ir EO hb
    refine⟨_,rfl,b,A.g_,dx,_,_,rfl,up k1,O.iG,O.hE,i0,_,rfl,g,_,rfl,iT.t (k:=nk ln.nm) e5 (up k2),_,rfl,?_⟩
    rw[e7 ln.nm,take_snoc yv,aaM,aau]
    by_cases wV:ln.nm∈ub row qs
    ·rw[XU wV]
     refine kA ⟨_,rfl,rfl,by omega,?_⟩
     rw[aaj (by simpa using wV),aaU,List.map_nil,aaN]
     exact e9
    ·rw[aah wV]
     refine mG ⟨_,rfl,b,A.g_,dx,_,_,rfl,up k1,O.iG,O.hE,i0,_,rfl,rfl,Mn,?_⟩
     rw[XZ (by simpa using wV),aaU]
     exact iD e9 ⟨nt,rfl,k2⟩
   ·rintro ys σ H7 ⟨v9,rfl,rfl,e8,e9⟩ c Wu
    rw[RK,hlen,aaf] at e9
    have s8:=sH6.new (o:=.lst ys) Wu
    have V_:c≠k:=fun z=>by rw[z,e2] at Wu;cases Wu
    refine⟨_,rfl,_,rfl,_,rfl,_,rfl,_,rfl,x,t,k,texts,mX row qs,rfl,hV.of (s8 _ _ ht),fun H' s'=>hV.of (s' _ _ (s8 _ _ ht)),⟨kk,by rw[d_ V_.symm];exact e2,fun s=>?_⟩,by omega,fun pu H9 s9 hpu0 Wv=>?_⟩
    ·have:=e4 s
     cases ek:mX row qs s with
     | none=>rw[ek] at this;exact this
     | some m=>rw[ek] at this;obtain⟨v,w1,w2⟩:=this;exact⟨v,w1,w2.same s8⟩
    ·refine⟨_,rfl,?_⟩
     intro o dx no O4 Wm
     refine⟨o,dx,_,_,_,_,_,rfl,b_,fun EB r6 r7=>⟨rfl,?_⟩⟩
     have L4:gg H9 EB:=fun c u ec=>by
      rw[r6 c (gb ec no),d_ (gb ec no),d_ (gb ec O4)]
      exact ec
     have Sr:=(s8.trans s9).trans L4
     refine q o EB Sr ((s8.trans s9).free no) ?_
     unfold mI
     rw[hqs]
     exact⟨dx,_,pu,c,.jn,r7,rfl,Wv.same L4,⟨ys,L4 _ _ (s9 _ _ b_),Paired.kS e9 fun _ _ z=>z.same Sr⟩,rfl⟩
noncomputable def l7:Str:=Str.ofString "abcdefghijklmnopqrstuvwxyz0123456789"
def Good(x:Str):Prop:=1≤x.length∧x.length≤12∧∀c∈x.cps.toList,c∈l7.cps.toList
def ki(x:Str):Prop:=(reprText x).length≤1048576∧x.length≤1000
noncomputable abbrev sk(x:Str):Key:=Sum.inr x
theorem zP{x:Str}{l:List Str}:sk x∈l.map sk↔x∈l:=by
 constructor
 ·intro h
  obtain⟨m,hm,e⟩:=aaH.mp h
  rw[←ab7 e];exact hm
 ·exact fun h=>aaa h
theorem jk{dk:List (Key×V)}{l:List Str}(h:dk.map (·.1)=l.map sk):dk.length=l.length:=by
 have:=aa5 List.length h
 rwa [RK,RK] at this
theorem pY{dk:List (Key×V)}{l:List Str}(h:dk.map (·.1)=l.map sk){i:Nat}{k:Key}{v:V}(hi:dk[i]?=some (k,v)):∃x,l[i]?=some x∧k=sk x:=by
 have h1:(dk.map (·.1))[i]?=some k:=by rw[aak,hi];rfl
 rw[h,aak] at h1
 obtain⟨n,e,e2⟩:=aaF.mp h1
 exact⟨n,e,e2.symm⟩
theorem jC{dk:List (Key×V)}{l:List Str}(h:dk.map (·.1)=l.map sk)(x:Str):(iO dk (sk x)).isSome=decide (x∈l):=by
 by_cases m:x∈l
 ·rw[XU m];exact sS.mpr (by rw[h];exact zP.mpr m)
 ·rw[aah m,abc];exact fun z=>m (zP.mp (by rw[←h];exact sS.mp z))
theorem nO{dk:List (Key×V)}{l:List Str}(h:dk.map (·.1)=l.map sk){x:Str}(hx:x∉l)(v:V):(putK dk (sk x) v).map (·.1)=(l++[x]).map sk:=by
 rw[pX,h,aan (fun z=>hx (zP.mp z)),aau];rfl
theorem FD{dk:List (Key×V)}{l:List Str}(h:dk.map (·.1)=l.map sk):(dk.map fun kv=>kV kv.1)=gh l:=by
 have:(dk.map fun kv=>kV kv.1)=(dk.map (·.1)).map kV:=by rw[List.map_map];rfl
 rw[this,h,List.map_map];rfl
noncomputable def yL(m n h:Addr):List (Str×V):=[("made",.ref m),("needs",.ref n),("held",.ref h)]
theorem N_(m n h:Addr):jD "held" (.ref h) (jD "needs" (.ref n) (jD "made" (.ref m) []))=yL m n h:=by kernel_rfl
theorem k7(m n h:Addr):(yL m n h).lookup ("held":Str)=some (V.ref h):=by kernel_rfl
theorem mL(m n h:Addr):(yL m n h).lookup ("made":Str)=some (V.ref m):=by kernel_rfl
theorem sT(m n h:Addr):(yL m n h).lookup ("needs":Str)=some (V.ref n):=by kernel_rfl
structure Dp where
 dx:Addr
 m:Addr
 n:Addr
 h:Addr
 ha:Str→Addr
 kM:List (Key×V)
 kN:List (Key×V)
 kH:List (Key×V)
structure Mr(A:Ad)(H:Hp)(d:Addr)(D:Dk)(W:Addr→Prop)(π:Dp):Prop where
 hd:H d=some (.ins A.gj π.dx (yL π.m π.n π.h))
 hm:H π.m=some (.dK π.kM)
 hn:H π.n=some (.dK π.kN)
 hh:H π.h=some (.dK π.kH)
 mn:π.m≠π.n
 mh:π.m≠π.h
 nh:π.n≠π.h
 wm:W π.m
 wn:W π.n
 wh:W π.h
 km:π.kM.map (·.1)=D.names.map sk
 vm:∀p∈D.made,∃a,iO π.kM (sk p.nm)=some (.ref a)∧ou A H a p
 kn:π.kN.map (·.1)=D.names.map sk
 vn:∀x∈D.names,∃(a:Addr)(kv:List (Key×V))(l:List Str),iO π.kN (sk x)=some (.ref a)∧¬W a∧H a=some (.dK kv)∧kv.map (·.1)=l.map sk∧l.Nodup∧∀y,y∈l↔y∈D.ij x
 kh:π.kH.map (·.1)=D.stores.map sk
 vh:∀s∈D.stores,iO π.kH (sk s)=some (.ref (π.ha s))∧W (π.ha s)∧π.ha s≠π.m∧π.ha s≠π.n∧π.ha s≠π.h∧∃kv:List (Key×V),H (π.ha s)=some (.dK kv)∧kv.map (·.1)=(D.held s).map sk
 inj:∀s∈D.stores,∀t∈D.stores,π.ha s=π.ha t→s=t
 dk:∀b,W b→∃kv,H b=some (.dK kv)
def iw(A:Ad)(H:Hp)(d:Addr)(D:Dk)(W:Addr→Prop):Prop:=∃π,Mr A H d D W π
theorem Mr.same{A:Ad}{H H':Hp}{d:Addr}{D:Dk}{W:Addr→Prop}{π:Dp}(x:Mr A H d D W π)(s:gg H H'):Mr A H' d D W π where
 hd:=s _ _ x.hd
 hm:=s _ _ x.hm
 hn:=s _ _ x.hn
 hh:=s _ _ x.hh
 mn:=x.mn
 mh:=x.mh
 nh:=x.nh
 wm:=x.wm
 wn:=x.wn
 wh:=x.wh
 km:=x.km
 vm:=fun p hp=>by obtain⟨a,h1,h2⟩:=x.vm p hp;exact⟨a,h1,h2.same s⟩
 kn:=x.kn
 vn:=fun y hy=>by obtain⟨a,kv,l,h1,h2,h3,h4⟩:=x.vn y hy;exact⟨a,kv,l,h1,h2,s _ _ h3,h4⟩
 kh:=x.kh
 vh:=fun t ht=>by obtain⟨h1,h2,h3,h4,h5,kv,h6,h7⟩:=x.vh t ht;exact⟨h1,h2,h3,h4,h5,kv,s _ _ h6,h7⟩
 inj:=x.inj
 dk:=fun b hb=>by obtain⟨kv,h⟩:=x.dk b hb;exact⟨kv,s _ _ h⟩
theorem iw.same{A:Ad}{H H':Hp}{d:Addr}{D:Dk}{W:Addr→Prop}(x:iw A H d D W)(s:gg H H'):iw A H' d D W:=by
 obtain⟨π,x⟩:=x
 exact⟨π,x.same s⟩
def qW(W:Addr→Prop)(H H':Hp):Prop:=∀b o,H b=some o→¬W b→H' b=some o
theorem qW.of{W:Addr→Prop}{H H':Hp}(s:gg H H'):qW W H H':=fun b o e _=>s b o e
theorem iw.lst{A:Ad}{H:Hp}{d a:Addr}{D:Dk}{W:Addr→Prop}{xs:List V}(x:iw A H d D W)(h:H a=some (.lst xs)):¬W a:=fun z=>by
 obtain⟨π,x⟩:=x
 obtain⟨kv,e⟩:=x.dk a z
 rw[h] at e;cases e
theorem iw.jn{A:Ad}{H:Hp}{d a:Addr}{D:Dk}{W:Addr→Prop}(x:iw A H d D W)(h:H a=none):¬W a:=fun z=>by
 obtain⟨π,x⟩:=x
 obtain⟨kv,e⟩:=x.dk a z
 rw[h] at e;cases e
theorem jB{m n h:Addr}:(yL m n h).lookup ("check_store":Str)=none:=by kernel_rfl
theorem qx{m n h:Addr}:(yL m n h).lookup ("check_new":Str)=none:=by kernel_rfl
theorem o_{m n h:Addr}:(yL m n h).lookup ("check_held":Str)=none:=by kernel_rfl
theorem tR{m n h:Addr}:(yL m n h).lookup ("check_made":Str)=none:=by kernel_rfl
theorem Cu{m n h:Addr}:(yL m n h).lookup ("keep":Str)=none:=by kernel_rfl
theorem sv{m n h:Addr}:(yL m n h).lookup ("has":Str)=none:=by kernel_rfl
theorem AQ{m n h:Addr}:(yL m n h).lookup ("patches_of":Str)=none:=by kernel_rfl
theorem oY{m n h:Addr}:(yL m n h).lookup ("sight_of":Str)=none:=by kernel_rfl
theorem Oa{m n h:Addr}:(yL m n h).lookup ("row":Str)=none:=by kernel_rfl
theorem Em{m n h:Addr}:(yL m n h).lookup ("quarrels":Str)=none:=by kernel_rfl
theorem FE{m n h:Addr}:(yL m n h).lookup ("patches":Str)=none:=by kernel_rfl
theorem vJ{m n h:Addr}:(yL m n h).lookup ("leans":Str)=none:=by kernel_rfl
theorem JM{m n h:Addr}:(yL m n h).lookup ("begin":Str)=none:=by kernel_rfl
theorem Hy{m n h:Addr}:(yL m n h).lookup ("record":Str)=none:=by kernel_rfl
theorem Ob{m n h:Addr}:(yL m n h).lookup ("cut":Str)=none:=by kernel_rfl
theorem Lx{m n h:Addr}:(yL m n h).lookup ("back":Str)=none:=by kernel_rfl
theorem Ly{m n h:Addr}:(yL m n h).lookup ("take":Str)=none:=by kernel_rfl
theorem Lz{m n h:Addr}:(yL m n h).lookup ("drop":Str)=none:=by kernel_rfl
noncomputable def S8:Dk:=⟨[],fun _=>[],[],fun _=>[]⟩
theorem U_:Inv S8:=⟨abb,(fun p hp=>by cases hp),(fun p hp=>by cases hp),⟨fun _=>0,fun p hp=>by cases hp⟩,(fun i p hp=>by simp[S8] at hp),(fun x hx=>by cases hx),abb,(fun s hs=>by cases hs),(fun s hs=>by cases hs),(fun p hp=>by cases hp),(fun p hp=>by cases hp)⟩
def Oc(A:Ad):Sp:=fun vs H Q _=>∃(p dx:Addr),vs=[.ref p]∧H p=some (.ins A.gj dx [])∧∀(H':Hp)(W:Addr→Prop),iw A H' p S8 W→(∀b,W b→H b=none)→(∀b o,H b=some o→b≠p→H' b=some o)→Q .jn H'
theorem Cv(T:Txt mg)(O:Ok K mg A):ik P w K mg base mT 1 A.nq A.qO ["self"] (Oc A):=by
 refine O.tO.f.q0 wF fun jx A0 outer s H vs Q E hr h=>?_
 obtain⟨p,dx,rfl,hp,k⟩:=h
 refine⟨_,(de (lF (pv 0) lI rfl)
   (de (lF (pv 0) lI rfl)
   (fO (lF (pv 0) lI rfl)))),?_⟩
 refine EK ?_;intro _ _
 intro m hm
 have FV:p≠m:=gb hp hm
 refine⟨_,rfl,p,A.gj,dx,_,rfl,(by rw[d_ FV];exact hp),O.gw,O.iM,(by show 0<1000;decide),?_⟩
 intro n hn
 have Ss:p≠n:=gb b_ hn
 have TN:m≠n:=by
  intro z;subst z;rw[d_ FV.symm,b_] at hn;cases hn
 have hH:H n=none:=by rw[d_ Ss.symm,d_ TN.symm] at hn;exact hn
 refine⟨_,rfl,p,A.gj,dx,_,rfl,(by rw[d_ Ss];exact b_),O.gw,O.je,(by show 1<1000;decide),?_⟩
 intro h hh
 have TQ:p≠h:=gb b_ hh
 have Ww:n≠h:=by
  intro z;subst z;rw[d_ Ss.symm,b_] at hh;cases hh
 have Wx:m≠h:=by
  intro z;subst z;rw[d_ FV.symm,d_ TN,d_ FV.symm,b_] at hh;cases hh
 have Y3:H h=none:=by rw[d_ TQ.symm,d_ Ww.symm,d_ TQ.symm,d_ Wx.symm] at hh;exact hh
 refine⟨_,rfl,p,A.gj,dx,_,rfl,(by rw[d_ TQ];exact b_),O.gw,O.iB,(by show 2<1000;decide),?_⟩
 have e1:∀{o},upd (upd (upd (upd (upd (upd H m (.dK [])) p (.ins A.gj dx (jD "made" (.ref m) []))) n (.dK [])) p (.ins A.gj dx (jD "needs" (.ref n) (jD "made" (.ref m) [])))) h (.dK [])) p o m=some (.dK []):=by
  intro o;rw[d_ FV.symm,d_ Wx,d_ FV.symm,d_ TN,d_ FV.symm,b_]
 have e2:∀{o},upd (upd (upd (upd (upd (upd H m (.dK [])) p (.ins A.gj dx (jD "made" (.ref m) []))) n (.dK [])) p (.ins A.gj dx (jD "needs" (.ref n) (jD "made" (.ref m) [])))) h (.dK [])) p o n=some (.dK []):=by
  intro o;rw[d_ Ss.symm,d_ Ww,d_ Ss.symm,b_]
 have e3:∀{o},upd (upd (upd (upd (upd (upd H m (.dK [])) p (.ins A.gj dx (jD "made" (.ref m) []))) n (.dK [])) p (.ins A.gj dx (jD "needs" (.ref n) (jD "made" (.ref m) [])))) h (.dK [])) p o h=some (.dK []):=by
  intro o;rw[d_ TQ.symm,b_]
 refine k _ (fun b=>b=m∨b=n∨b=h) ⟨⟨dx,m,n,h,fun _=>0,[],[],[]⟩,Eq.trans b_ (aa5 (fun l=>some (HO.ins A.gj dx l)) (N_ m n h)),e1,e2,e3,TN,Wx,Ww,.inl rfl,.inr (.inl rfl),.inr (.inr rfl),rfl,(fun p hp=>by cases hp),rfl,(fun p hp=>by cases hp),rfl,(fun p hp=>by cases hp),(fun p hp=>by cases hp),fun b hb=>?_⟩ (fun b hb=>?_) fun b o e hb=>?_
 ·rcases hb with rfl|rfl|rfl
  ·exact⟨_,e1⟩
  ·exact⟨_,e2⟩
  ·exact⟨_,e3⟩
 ·rcases hb with rfl|rfl|rfl
  ·exact hm
  ·exact hH
  ·exact Y3
 ·rw[d_ hb,d_ (gb e Y3),d_ hb,d_ (gb e hH),d_ hb,d_ (gb e hm)]
  exact e
def LA(XB:Addr):Sp:=fun vs H Q E=>∃x:Str,vs=[.str x]∧ki x∧(Good x→Q .jn H)∧(¬Good x→E (.ref XB) none H)
theorem Ms:(12:Int).natAbs.log2<1920:=by decide
theorem tS(T:Txt mg)(O:Ok K mg A):ik P w K mg base (sI P w) 1 A.vk A.vp ["name"] (LA A.jj):=by
 refine O.uj.f.p8 tG fun jx A0 outer s H vs Q E hr h=>?_
 obtain⟨x,rfl,⟨hf,hl⟩,q,qe⟩:=h
 refine⟨_,(de (iE (q8 (Dg Im Im f_ (hZ uQ (by rfl) T.jP aay (a_ (pv 0) e_)) (BH (v:=.int 12) (by rfl) O.r_ ⟨_,rfl⟩))) (fO (kc bx O.Bv (by rfl) (lK (iu iV (iu (IX (BH (v:=.int 12) (by rfl) O.r_ ⟨_,rfl⟩)) (iu iV (iu (mV (pv 0)) nQ))))))) ia)
   (fO (iC IP rfl (NI (pv 0)) (rm 1 tG) (fO (iE (ip BL (pv 1) (BH (v:=.str (Str.ofString "abcdefghijklmnopqrstuvwxyz0123456789")) (by rfl) O.Cg ⟨_,rfl⟩) rfl) (fO (kc bx O.Bv (by rfl) (lK (iu iV (iu (mV (pv 0)) nQ))))) ia))))),?_⟩
 refine HW ?_;intro _
 have hz:x.length≤sizeLine:=aad hl (by decide)
 have bad:¬Good x→∀H',H'=H→E (.ref A.jj) none H':=fun g H' e=>by subst e;exact qe g
 refine⟨_,rfl,_,rfl,hz,_,_,rfl,rfl,_,rfl,?_⟩
 refine kI (fun h1=>?_) (fun h1=>?_)
 ·refine⟨_,_,rfl,rfl,_,rfl,?_⟩
  refine kI (fun h2=>?_) (fun h2=>?_)
  ·
   have h2:¬((x.length:Int)≤12):=by simpa using h2
   refine⟨_,rfl,by decide+kernel,⟨_,rfl,Ms,_,rfl,by decide+kernel,⟨_,rfl,by decide+kernel,⟨_,rfl,_,rfl,hf,_,rfl,hf,fun _=>qe fun g=>?_⟩⟩⟩⟩
   have:=g.2.1;omega
  ·have h1:(1:Int)≤(x.length:Int):=by simpa using h1
   have h2:(x.length:Int)≤12:=by simpa using h2
   refine⟨_,rfl,x,rfl,IW (fun i σ H2=>∃v,σ=[rs x,v]∧H2=H∧∀j<i,∀c,x.cps[j]?=some c→c∈l7.cps.toList) ⟨none,rfl,rfl,fun j hj=>absurd hj (by omega)⟩ ?_ ?_⟩
   ·rintro i c σ H2 hc ⟨v,rfl,rfl,hp⟩
    refine⟨_,rfl,_,_,rfl,rfl,_,rfl,?_⟩
    rw[K6]
    refine kI (fun h3=>?_) (fun h3=>?_)
    ·have h3:c∉l7.cps.toList:=by simpa[l7] using h3
     refine⟨_,rfl,by decide+kernel,⟨_,rfl,_,rfl,hf,_,rfl,hf,fun _=>qe fun g=>?_⟩⟩
     exact h3 (g.2.2 c (VI (i:=i) (by rw[aa8];exact hc)))
    ·have h3:c∈l7.cps.toList:=by simpa[l7] using h3
     refine⟨_,rfl,rfl,fun j hj c' BD=>?_⟩
     by_cases e:j=i
     ·subst e;rw[hc] at BD;cases BD;exact h3
     ·exact hp j (by omega) c' BD
   ·rintro σ H2 ⟨v,rfl,rfl,hp⟩
    refine q ⟨by omega,by omega,fun c hc=>?_⟩
    obtain⟨j,hj,e⟩:=List.mem_iff_getElem.mp hc
    have Y4:j<x.cps.size:=by simpa using hj
    exact hp j Y4 c (by rw[aaY Y4];simpa using e)
 ·have h1:¬((1:Int)≤(x.length:Int)):=by simpa using h1
  refine⟨_,rfl,?_⟩
  refine⟨_,rfl,by decide+kernel,⟨_,rfl,Ms,_,rfl,by decide+kernel,⟨_,rfl,by decide+kernel,⟨_,rfl,_,rfl,hf,_,rfl,hf,fun _=>qe fun g=>?_⟩⟩⟩⟩
  have:=g.1;omega
def Hz(A:Ad):Sp:=fun vs H Q _=>∃(d:Addr)(D:Dk)(W:Addr→Prop),vs=[.ref d]∧iw A H d D W∧∀p,H p=none→Q (.ref p) (upd H p (.lst (gh D.names)))
theorem FF(T:Txt mg)(O:Ok K mg A):ik P w K mg base mT 1 A.rM A.rN ["self"] (Hz A):=by
 refine O.qu.f.q0 yl fun jx A0 outer s H vs Q E hr h=>?_
 obtain⟨d,D,W,rfl,⟨π,x⟩,q⟩:=h
 refine⟨_,(fO (h_ (sG (zb rfl) (by rfl) T.wK abM (a_ (gq (pv 0) rfl) e_)))),?_⟩
 refine⟨_,rfl,d,A.gj,π.dx,_,_,rfl,x.hd,O.gw,O.iM,mL _ _ _,π.m,_,rfl,x.hm,fun p sA=>?_⟩
 rw[FD x.km]
 exact q p sA
def LB(A:Ad):Sp:=fun vs H Q E=>∃(d:Addr)(D:Dk)(W:Addr→Prop)(s:Str),vs=[.ref d,.str s]∧iw A H d D W∧ki s∧(s∈D.stores→Q .jn H)∧(s∉D.stores→E (.ref A.iL) none H)
theorem j0(T:Txt mg)(O:Ok K mg A):ik P w K mg base (sI P w) 1 A.oa A.og ["self","store"] (LB A):=by
 refine O.iU.f.p8 s_ fun jx A0 outer s H vs Q E hr h=>?_
 obtain⟨d,D,W,st,rfl,⟨π,x⟩,hf,q,qe⟩:=h
 refine⟨_,(fO (iE (i7 (kG (by exact iI hr) (pv 1) (gq (pv 0) rfl))) (fO (kc bx O.Hq (by rfl) (lK (iu iV (iu (mV (pv 1)) nQ))))) ia)),?_⟩
 refine⟨_,rfl,_,rfl,d,A.gj,π.dx,_,_,rfl,x.hd,O.gw,O.iB,k7 _ _ _,π.h,_,rfl,iT.k (k:=sk st) x.hh,_,rfl,?_⟩
 rw[jC x.kh]
 by_cases hs:st∈D.stores
 ·rw[XU hs]
  exact q hs
 ·rw[aah hs]
  exact mG ⟨_,rfl,by decide+kernel,⟨_,rfl,_,rfl,hf.1,_,rfl,hf.1,fun _=>qe hs⟩⟩
def Od(A:Ad):Sp:=fun vs H Q E=>∃(d:Addr)(D:Dk)(W:Addr→Prop)(s:Str),vs=[.ref d,.str s]∧iw A H d D W∧ki s∧(s∈D.names→Q .jn H)∧(s∉D.names→E (.ref A.gk) none H)
theorem tT(T:Txt mg)(O:Ok K mg A):ik P w K mg base (sI P w) 1 A.oS A.oT ["self","patch"] (Od A):=by
 refine O.nr.f.p8 ud fun jx A0 outer s H vs Q E hr h=>?_
 obtain⟨d,D,W,st,rfl,⟨π,x⟩,hf,q,qe⟩:=h
 refine⟨_,(fO (iE (i7 (kG (by exact iI hr) (pv 1) (gq (pv 0) rfl))) (fO (kc bx O.sQ (by rfl) (lK (iu iV (iu (mV (pv 1)) nQ))))) ia)),?_⟩
 refine⟨_,rfl,_,rfl,d,A.gj,π.dx,_,_,rfl,x.hd,O.gw,O.iM,mL _ _ _,π.m,_,rfl,iT.k (k:=sk st) x.hm,_,rfl,?_⟩
 rw[jC x.km]
 by_cases hs:st∈D.names
 ·rw[XU hs]
  exact q hs
 ·rw[aah hs]
  exact mG ⟨_,rfl,by decide+kernel,⟨_,rfl,_,rfl,hf.1,_,rfl,hf.1,fun _=>qe hs⟩⟩
def Oe(A:Ad):Sp:=fun vs H Q E=>∃(d:Addr)(D:Dk)(W:Addr→Prop)(s x:Str),vs=[.ref d,.str s,.str x]∧iw A H d D W∧ki s∧ki x∧s∈D.stores∧(x∈D.held s→Q .jn H)∧(x∉D.held s→E (.ref A.gk) none H)
theorem pb(T:Txt mg)(O:Ok K mg A):ik P w K mg base (sI P w) 1 A.oU A.oV ["self","store","patch"] (Oe A):=by
 refine O.lj.f.p8 ue fun jx A0 outer s H vs Q E hr h=>?_
 obtain⟨d,D,W,st,y,rfl,⟨π,x⟩,hf,FW,hs,q,qe⟩:=h
 obtain⟨v1,_,_,_,_,kv,v2,v3⟩:=x.vh st hs
 refine⟨_,(fO (iE (i7 (kG (by exact iI hr) (pv 2) (xp hr (gq (pv 0) rfl) (pv 1)))) (fO (kc bx O.sQ (by rfl) (lK (iu iV (iu (mV (pv 1)) (iu iV (iu (mV (pv 2)) nQ))))))) ia)),?_⟩
 refine⟨_,rfl,_,rfl,d,A.gj,π.dx,_,_,rfl,x.hd,O.gw,O.iB,k7 _ _ _,_,rfl,π.h,.ref (π.ha st),rfl,?_,π.ha st,_,rfl,iT.k (k:=sk y) v2,_,rfl,?_⟩
 ·have:=iT.k (k:=sk st) x.hh
  rw[v1] at this
  exact this
 ·rw[jC v3]
  by_cases hy:y∈D.held st
  ·rw[XU hy]
   exact q hy
  ·rw[aah hy]
   refine mG ?_
   exact⟨_,rfl,by decide+kernel,⟨_,rfl,_,rfl,hf.1,_,rfl,hf.1,⟨_,rfl,by decide+kernel,⟨_,rfl,_,rfl,FW.1,_,rfl,FW.1,fun _=>qe hy⟩⟩⟩⟩
def JN(H:Hp)(v:V)(l:Ln):Prop:=∃t,v=.ref t∧H t=some (.tup [.str l.nm.1,.int l.nm.2,.str l.tx])
def Q0(H:Hp)(a:Addr)(row:List Ln):Prop:=∃vs,H a=some (.lst vs)∧Paired (JN H) vs row
theorem JN.same{H H':Hp}{v:V}{l:Ln}(x:JN H v l)(s:gg H H'):JN H' v l:=by obtain⟨t,e,h⟩:=x;exact⟨t,e,s _ _ h⟩
def Q1(A:Ad):Sp:=fun vs H Q E=>∃(d:Addr)(D:Dk)(W:Addr→Prop)(s:Str),vs=[.ref d,.str s]∧iw A H d D W∧ki s∧wN D.made.length∧(s∉D.stores→E (.ref A.iL) none H)∧(s∈D.stores→∀p,H p=none→Q (.ref p) (upd H p (.lst (gh (D.has s)))))
theorem FG(T:Txt mg)(O:Ok K mg A):ik P w K mg base (sI P w) 2 A.zz A.zA ["self","store"] (Q1 A):=by
 have ic:=@j0 P w K mg base A T O
 refine O.lX.f.p8 xu fun jx A0 outer s H vs Q E hr h=>?_
 obtain⟨d,D,W,st,rfl,X,hf,jQ,qe,q⟩:=h
 obtain⟨π,x⟩:=id X
 have yw:D.made.length≤4000:=jQ
 have sz:sizeLine=16777216:=aaC
 refine⟨_,(de (hG (Ay bx (pv 0) O.gw O.iU ic hr (a_ (pv 1) e_)))
   (fO (h_ (Gr (p3 zt (fZ qk).names [2] rfl (uT (gq (pv 0) rfl)) rfl (by decide+kernel) (fun _ _ _ _=>(iy (i:=2) xu.nd rfl (Or.inl rfl))) (fun _ _ _ _=>⟨_,l_ (i7 (mS (by exact iI hr) (pv 2) (xp hr (gq (pv 0) rfl) (pv 1)))),by(try simp only [j6]);rfl⟩) (fun _ _ _ _=>yG (pv 2))))))),?_⟩
 refine HW ?_;intro _
 refine⟨_,rfl,d,π.dx,_,rfl,x.hd,jB,_,rfl,d,D,W,st,rfl,X,hf,fun hs=>?_,fun hs=>qe hs⟩
 obtain⟨v1,_,qA,_,_,kv,v2,v3⟩:=x.vh st hs
 refine⟨_,rfl,d,A.gj,π.dx,_,_,rfl,x.hd,O.gw,O.iM,mL _ _ _,π.m,π.kM,rfl,x.hm,fun o uz=>?_⟩
 have HP:=jk x.km
 have MG:D.names.length=D.made.length:=by unfold Dk.names;rw[RK]
 have P2:d≠π.m:=i9 x.hd x.hm (fun z=>by cases z)
 have f:∀{b u},H b=some u→b≠π.m→upd H π.m (.mQ o (.dK π.kM)) b=some u:=fun{b u} e n=>by rw[d_ n];exact e
 refine Gu (by omega) (fun i ys σ H3=>∃(v2:Option V)(zs:List Str),σ=[rr d,rs st,v2]∧H3=upd H π.m (.mQ o (.dK π.kM))∧ys=gh zs∧zs=(D.names.take i).filter fun x=>x∈D.held st) ⟨none,[],rfl,rfl,rfl,rfl⟩ (fun i ys σ H3 ⟨_,zs,_,e,e2,e3⟩=>?_) ?_ ?_
 ·rw[e,e2,e3]
  refine⟨b_,?_⟩
  rw[RK]
  exact aad (aaI _ _) (by rw[aap];omega)
 ·rintro i k v ys σ H3 hi ⟨v0,zs,rfl,rfl,rfl,e3⟩
  obtain⟨y,hy,rfl⟩:=pY x.km hi
  refine⟨_,rfl,_,rfl,d,A.gj,π.dx,_,_,rfl,f x.hd P2,O.gw,O.iB,k7 _ _ _,_,rfl,π.h,.ref (π.ha st),rfl,?_,π.ha st,_,rfl,iT.k (k:=sk y) (f v2 qA),_,rfl,?_⟩
  ·have:=iT.k (k:=sk st) (f x.hh x.mh.symm)
   rw[v1] at this
   exact this
  ·rw[jC v3,take_snoc hy,aaM]
   by_cases hm:y∈D.held st
   ·rw[XU hm]
    refine mG ⟨_,rfl,_,_,rfl,rfl,iK _ _,?_⟩
    rw[e3,XZ (by simpa using hm),aaU]
   ·rw[aah hm]
    refine kA ⟨_,_,rfl,rfl,rfl,?_⟩
    rw[e3,aaj (by simpa using hm),aaU,aaN]
 ·rintro ys σ H3 ⟨v0,zs,rfl,rfl,rfl,e3⟩ p sA
  rw[HP,aaf] at e3
  have FV:p≠π.m:=fun z=>by rw[z,b_] at sA;cases sA
  have FT:H p=none:=by rw[d_ FV] at sA;exact sA
  refine⟨π.m,o,_,by rw[d_ FV.symm];exact b_,uz,?_⟩
  rw[BW x.hm FV]
  have:=q hs p FT
  unfold Dk.has at this
  rw[←e3] at this
  exact this
def Q2(A:Ad):Sp:=fun vs H Q E=>∃(d:Addr)(D:Dk)(W:Addr→Prop)(s:Str),vs=[.ref d,.str s]∧iw A H d D W∧ki s∧wN D.made.length∧(s∉D.stores→E (.ref A.iL) none H)∧(s∈D.stores→∀p H',gg H H'→H p=none→yp A H' p (D.qM s)→Q (.ref p) H')
theorem AR(T:Txt mg)(O:Ok K mg A):ik P w K mg base (sI P w) 3 A.oQ A.oR ["self","store"] (Q2 A):=by
 have jN:=@FG P w K mg base A T O
 refine O.qV.f.p8 n_ fun jx A0 outer s H vs Q E hr h=>?_
 obtain⟨d,D,W,st,rfl,X,hf,jQ,qe,q⟩:=h
 obtain⟨π,x⟩:=id X
 have yw:D.made.length≤4000:=jQ
 have sz:sizeLine=16777216:=aaC
 have o3:(D.qM st).length≤D.made.length:=aaI _ _
 refine⟨_,(fO (h_ (xn oN (fZ kl).names [2] rfl (ie (Ay bx (pv 0) O.gw O.lX jN hr (a_ (pv 1) e_))) rfl (by decide+kernel) (fun _ _ _ _=>(iy (i:=2) n_.nd rfl (Or.inl rfl))) (fun _ _ _ _=>mU) (fun _ _ _ _=>yG (xp hr (gq (pv 0) rfl) (pv 2)))))),?_⟩
 refine⟨_,rfl,d,π.dx,_,rfl,x.hd,sv,_,rfl,d,D,W,st,rfl,X,hf,jQ,fun hs=>qe hs,fun hs p sA=>?_⟩
 rw[Dk.Gx]
 have s1:gg H (upd H p (.lst (gh ((D.qM st).map (·.nm))))):=(gg.refl H).new sA
 have MC:(upd H p (.lst (gh ((D.qM st).map (·.nm))))) p=some (.lst (gh ((D.qM st).map (·.nm)))):=b_
 generalize upd H p (.lst (gh ((D.qM st).map (·.nm))))=H1 at s1 MC
 let Jv:=fun(i:Nat) (ys:List V) (σ:St) (H3:Hp)=>∃(v2:Option V)(as:List Addr),σ=[rr d,rs st,v2]∧H3=H1∧ys=as.map V.ref∧Paired (ou A H) as ((D.qM st).take i)
 refine⟨p,rfl,⟨_,hV.of MC⟩,jE (K:=K) (a:=p) (xs:=gh ((D.qM st).map (·.nm))) (by rw[RK,RK];omega) Jv
  ⟨none,[],rfl,rfl,rfl,.nil⟩ (fun i ys σ H3 _ ⟨_,as,_,e,e2,e3⟩=>?_) ?_ ?_⟩
 ·rw[e,e2]
  have:=aao e3
  rw[aap] at this
  exact⟨hV.of MC,by rw[RK];omega⟩
 ·rintro i v ys σ H3 hx ⟨v2,as,rfl,rfl,rfl,e3⟩
  obtain⟨y,hy,rfl⟩:=jR hx
  rw[aak] at hy
  obtain⟨pt,ER,rfl⟩:=aaF.mp hy
  have wV:pt∈D.made:=(Inv.k_.mp (VI ER)).1
  obtain⟨a,z1,z2⟩:=x.vm pt wV
  refine⟨_,rfl,d,A.gj,π.dx,_,_,rfl,s1 _ _ x.hd,O.gw,O.iM,mL _ _ _,_,rfl,π.m,.ref a,rfl,?_,?_⟩
  ·have:=iT.k (k:=sk pt.nm) (s1 _ _ x.hm)
   rw[z1] at this
   exact this
  ·refine⟨_,as++[a],rfl,rfl,by rw[aau];rfl,?_⟩
   rw[take_snoc ER]
   exact iD e3 z2
 ·rintro ys σ H3 ⟨v2,as,rfl,rfl,rfl,e3⟩ r qB
  have e0:(gh ((D.qM st).map (·.nm))).length=(D.qM st).length:=by rw[RK,RK]
  rw[e0,aaf] at e3
  have s2:=s1.new (o:=.lst (as.map V.ref)) qB
  exact q hs r _ s2 (s1.free qB) ⟨as,b_,Paired.kS e3 fun _ _ z=>z.same s2⟩
def LC(A:Ad):Sp:=fun vs H Q E=>∃(d:Addr)(D:Dk)(W:Addr→Prop)(s f:Str),vs=[.ref d,.str s,.str f]∧iw A H d D W∧ki s∧Small D.made∧Inv D∧(s∉D.stores→E (.ref A.iL) none H)∧(s∈D.stores→∀p H',gg H H'→H p=none→FA A H' p (hU (D.qM s) f) (D.row s f)→Q (.ref p) H')
theorem oZ(T:Txt mg)(O:Ok K mg A):ik P w K mg base (sI P w) 5 A.qR A.qS ["self","store","file"] (LC A):=by
 have w9:=@AN P w K mg base A T O
 have vR:=@AR P w K mg base A T O
 refine O.kZ.f.p8 wH fun jx A0 outer s H vs Q E hr h=>?_
 obtain⟨d,D,W,st,f,rfl,X,hf,sm,I,qe,q⟩:=h
 obtain⟨π,x⟩:=id X
 refine⟨_,(fO (h_ (uN O.Li w9 (hr.mono (by decide)) (by rfl) O.Lj O.rY.b .nil oC (a_ (Ay bx (pv 0) O.gw O.qV vR hr (a_ (pv 1) e_)) (a_ (pv 2) e_))))),?_⟩
 refine⟨_,rfl,d,π.dx,_,rfl,x.hd,AQ,_,rfl,d,D,W,st,rfl,X,hf,sm.many,fun hs=>qe hs,fun hs a H1 s1 ha0 TR=>?_⟩
 refine⟨_,rfl,?_⟩
 intro p px np Wy nxp
 have s2:gg H1 (upd (upd H1 px (.own p)) p (.ins A.ib px [])):=fun b o e=>by
  rw[d_ (gb e np),d_ (gb e Wy)]
  exact e
 refine⟨p,px,a,D.qM st,f,rfl,b_,TR.same s2,sm.sub (Inv.yJ st),I.nodup st f,I.closed hs f,I.QG st f,fun H' k sg=>⟨rfl,?_⟩⟩
 exact q hs p H' (fun b o e=>k b o (s2 b o (s1 b o e)) (gb (s1 b o e) np)) (s1.free np) sg
theorem JO{D:Dk}(I:Inv D)(s f:Str):∀l∈D.row s f,l.nm∈(hU (D.qM s) f).map (·.nm):=fun l hl=>aaa ((lO _ f).subset ((I.zm s f).subset hl))
def Of(A:Ad):Sp:=fun vs H Q E=>∃(d:Addr)(D:Dk)(W:Addr→Prop)(s f:Str),vs=[.ref d,.str s,.str f]∧iw A H d D W∧ki s∧Small D.made∧Inv D∧(s∉D.stores→E (.ref A.iL) none H)∧(s∈D.stores→∀p H',gg H H'→H p=none→Q0 H' p (D.row s f)→Q (.ref p) H')
theorem Og(T:Txt mg)(O:Ok K mg A):ik P w K mg base (sI P w) 6 A.zD A.zE ["self","store","file"] (Of A):=by
 have jl:=@oZ P w K mg base A T O
 refine O.D8.f.p8 xx fun jx A0 outer s H vs Q E hr h=>?_
 obtain⟨d,D,W,st,f,rfl,X,hf,sm,I,qe,q⟩:=h
 obtain⟨π,x⟩:=id X
 have sz:sizeLine=16777216:=aaC
 have EM:(D.row st f).length≤4000:=aad (I.uY st f) sm.ig
 refine⟨_,(fO (h_ (xn zv (fZ qm).names [3] rfl (ie (gq (Ay bx (pv 0) O.gw O.kZ jl hr (a_ (pv 1) (a_ (pv 2) e_))) rfl)) rfl (by decide+kernel) (fun _ _ _ _=>(iy (i:=3) xx.nd rfl (Or.inl rfl))) (fun _ _ _ _=>mU) (fun _ _ _ _=>yG (vZ (a_ (jO mR (gq (pv 3) rfl) f_ (fun _ _=>rfl)) (a_ (jO mR (gq (pv 3) rfl) f_ (fun _ _=>rfl)) (a_ (gq (pv 3) rfl) e_)))))))),?_⟩
 refine⟨_,rfl,d,π.dx,_,rfl,x.hd,oY,_,rfl,_,rfl,d,D,W,st,f,rfl,X,hf,sm,I,fun hs=>qe hs,fun hs p H1 s1 sA ⟨px,ah,l,g1,g2,⟨as,g3,g4⟩⟩=>?_⟩
 have hlen:=aao g4
 let Jv:=fun(i:Nat) (ys:List V) (σ:St) (H4:Hp)=>∃(v3:Option V),σ=[rr d,rs st,rs f,v3]∧gg H1 H4∧Paired (JN H4) ys ((D.row st f).take i)
 refine⟨p,A.ib,px,_,_,rfl,g1,O.j9,O.iq,lB ah l,l,rfl,⟨_,hV.of g3⟩,jE (K:=K) (a:=l) (xs:=as.map V.ref) (by rw[RK];omega) Jv
  ⟨none,rfl,gg.refl _,.nil⟩ (by rintro _ _ _ _ _ ⟨_,_,e,e2⟩;exact⟨hV.of (e _ _ g3),by rw[aao e2,aap];omega⟩) ?_ ?_⟩
 ·rintro i v ys σ H4 hx ⟨v3,rfl,s4,e2⟩
  obtain⟨b,hb,rfl⟩:=j_ hx
  obtain⟨ln,yv,Ky,vn,vu,vl,k1,⟨nt,rfl,k2⟩,k3,k4⟩:=ir g4 hb
  refine⟨_,rfl,b,A.g_,Ky,_,_,rfl,s4 _ _ k1,O.iG,O.hE,i0,nt,_,_,_,rfl,rfl,pk.of (s4 _ _ k2),iF (j:=0) rfl rfl,?_⟩
  refine⟨_,rfl,b,A.g_,Ky,_,_,rfl,s4 _ _ k1,O.iG,O.hE,i0,nt,_,_,_,rfl,rfl,pk.of (s4 _ _ k2),iF (j:=1) rfl rfl,?_⟩
  refine⟨_,rfl,b,A.g_,Ky,_,_,rfl,s4 _ _ k1,O.iG,O.js,vC,L2.jQ,fun t ht=>?_⟩
  have s5:=(gg.refl H4).new (o:=.tup [.str ln.nm.1,.int ln.nm.2,.str ln.tx]) ht
  refine⟨_,rfl,s4.trans s5,?_⟩
  rw[take_snoc yv]
  exact iD (Paired.kS e2 fun _ _ z=>z.same s5) ⟨t,rfl,b_⟩
 ·rintro ys σ H4 ⟨v3,rfl,s4,e2⟩ r qB
  rw[RK,hlen,aaf] at e2
  have s5:=(s1.trans s4).new (o:=.lst ys) qB
  exact q hs r _ s5 ((s1.trans s4).free qB) ⟨ys,b_,Paired.kS e2 fun _ _ z=>z.same ((gg.refl H4).new qB)⟩
def Q3(A:Ad):Sp:=fun vs H Q E=>∃(d:Addr)(D:Dk)(W:Addr→Prop)(s f:Str),vs=[.ref d,.str s,.str f]∧iw A H d D W∧ki s∧Small D.made∧Inv D∧(s∉D.stores→E (.ref A.iL) none H)∧(s∈D.stores→∀p H' vs,gg H H'→H p=none→H' p=some (.lst vs)→jf H' (D.DQ s f) vs→Q (.ref p) H')
theorem En(T:Txt mg)(O:Ok K mg A):ik P w K mg base (sI P w) 6 A.qP A.qQ ["self","store","file"] (Q3 A):=by
 have jl:=@oZ P w K mg base A T O
 have kW:=@sr P w K mg base A T O
 refine O.tP.f.p8 wG fun jx A0 outer s H vs Q E hr h=>?_
 obtain⟨d,D,W,st,f,rfl,X,hf,sm,I,qe,q⟩:=h
 obtain⟨π,x⟩:=id X
 have EM:(D.row st f).length≤4000:=aad (I.uY st f) sm.ig
 refine⟨_,(fO (h_ (yU (Ay bx (pv 0) O.gw O.kZ jl hr (a_ (pv 1) (a_ (pv 2) e_))) O.j9 O.jI.t kW (hr.mono (by decide)) O.jI.b .nil oC))),?_⟩
 refine⟨_,rfl,d,π.dx,_,rfl,x.hd,oY,_,rfl,_,rfl,d,D,W,st,f,rfl,X,hf,sm,I,fun hs=>qe hs,fun hs p H1 s1 sA sg=>?_⟩
 obtain⟨px,ah,l,g1,g2,g3⟩:=id sg
 refine⟨p,px,_,rfl,g1,JJ ah l,p,_,_,rfl,sg,JO I st f,EM,fun r H2 vs s2 qB EA EO=>?_⟩
 exact q hs r H2 vs (s1.trans s2) (s1.free qB) EA EO
end
theorem oj{xs ys:List Str}(nd:xs.Nodup)(h:∀x∈xs,x∈ys):xs.length≤ys.length:=by
 have:=len_sub (xs:=xs.map fun k=>((k,0):Nm)) (ys:=ys.map fun k=>(k,0)) (List.pairwise_map.mpr (nd.imp fun h z=>h (aa5 Prod.fst z))) fun x hx=>by
  obtain⟨k,hk,rfl⟩:=aaH.mp hx
  exact aaa (h k hk)
 rwa [RK,RK] at this
section
variable{A:Ad}{H:Hp}{x:Addr}{o:HO}{kv:List (Key×V)}
theorem nu.dk{a:Addr}{l:Ln}(h:nu A H a l)(hx:H x=some (.dK kv)):nu A (L2.upd H x o) a l:=nu.upd h hx (fun _ z=>by cases z) (fun _ _ _ z=>by cases z)
theorem qv.dk{a:Addr}{ls:List Ln}(h:qv A H a ls)(hx:H x=some (.dK kv)):qv A (L2.upd H x o) a ls:=by
 obtain⟨as,h1,h2⟩:=h
 exact⟨as,by rw[d_ (i9 h1 hx (fun z=>by cases z))];exact h1,Paired.kS h2 fun _ _ z=>z.dk hx⟩
theorem zJ.dk{a:Addr}{ns:List Nm}(h:zJ H a ns)(hx:H x=some (.dK kv)):zJ (L2.upd H x o) a ns:=by
 obtain⟨vs,h1,h2⟩:=h
 exact⟨vs,by rw[d_ (i9 h1 hx (fun z=>by cases z))];exact h1,Paired.kS h2 fun _ _ z=>z.upd hx (fun _ z=>by cases z)⟩
theorem ou.dk{a:Addr}{p:Pt}(h:ou A H a p)(hx:H x=some (.dK kv)):ou A (L2.upd H x o) a p:=by
 obtain⟨dx,vf,pu,cu,vo,h0,h1,h2,h3,h4⟩:=h
 exact⟨dx,vf,pu,cu,vo,by rw[d_ (i9 h0 hx (fun z=>by cases z))];exact h0,h1,h2.dk hx,h3.dk hx,h4⟩
end
noncomputable def zQ(l:List Str)(m:Str):List Str:=if m∈l then l else l++[m]
theorem sx{l:List Str}{m x:Str}:x∈zQ l m↔x∈l∨x=m:=by
 unfold zQ
 split
 ·rename_i h
  exact⟨.inl,fun z=>z.elim id fun z=>z▸h⟩
 ·simp
theorem yM{l:List Str}{m:Str}(h:l.Nodup):(zQ l m).Nodup:=by
 unfold zQ
 split
 ·exact h
 ·rename_i hm
  rw[aa2]
  exact⟨h,by simp,fun a ha b hb z=>hm (by rw[US.mp hb] at z;exact z▸ha)⟩
theorem sU{dk:List (Key×V)}{l:List Str}(h:dk.map (·.1)=l.map sk)(m:Str)(v:V):(putK dk (sk m) v).map (·.1)=(zQ l m).map sk:=by
 rw[pX,h]
 unfold zQ
 by_cases e:m∈l
 ·rw[aas (zP.mpr e),aas e]
 ·rw[aan (fun z=>e (zP.mp z)),aan e,aau];rfl
theorem BA:∀(more:List (Key×V))(dk:List (Key×V))(l r:List Str),dk.map (·.1)=l.map sk→more.map (·.1)=r.map sk→l.Nodup→∃l':List Str,(putAll dk more).map (·.1)=l'.map sk∧l'.Nodup∧∀m,m∈l'↔m∈l∨m∈r
 | [],dk,l,r,h1,h2,nd=>by
  have:r=[]:=by cases r with|nil=>rfl|cons _ _=>cases h2
  subst this
  exact⟨l,h1,nd,fun m=>by simp⟩
 | p::t,dk,l,r,h1,h2,nd=>by
  cases r with
  | nil=>cases h2
  | cons x r=>
   rw[aaw,aaw] at h2
   injection h2 with e1 e2
   rw[rj,e1]
   obtain⟨l',z1,z2,z3⟩:=BA t (putK dk (sk x) p.2) (zQ l x) r (sU h1 x _) e2 (yM nd)
   refine⟨l',z1,z2,fun m=>?_⟩
   rw[z3 m,sx,XW,or_assoc]
theorem FH{kvs:List (Key×V)}{l:List Str}{x:Str}(h:kvs.map (·.1)=l.map sk):(jX kvs (sk x)).map (·.1)=(l.filter fun y=>y≠x).map sk:=by
 induction kvs generalizing l with
 | nil=>
  cases l with
  | nil=>rfl
  | cons _ _=>cases h
 | cons p r ih=>
  cases l with
  | nil=>cases h
  | cons y t=>
   rw[aaw,aaw] at h
   injection h with e1 e2
   by_cases e:y=x
   ·rw[wb (by rw[e1,e]),ih e2,aaj (by simpa using e)]
   ·rw[wc (by rw[e1];exact fun z=>e (ab7 z)),XZ (by simpa using e),aaw,aaw,ih e2,e1]
noncomputable def wQ(D:Dk)(s:Str)(l:List Str):Dk:=⟨D.made,D.ij,D.stores,fun t=>if t=s then l else D.held t⟩
theorem Mr.wQ{A:Ad}{H:Hp}{d:Addr}{D:Dk}{W:Addr→Prop}{π:Dp}{s:Str}{l:List Str}{kv:List (Key×V)}(x:Mr A H d D W π)(hs:s∈D.stores)(hk:kv.map (·.1)=l.map sk):Mr A (upd H (π.ha s) (.dK kv)) d (PK.wQ D s l) W π:=by
 obtain⟨v1,v2,v3,v4,v5,Wz,v6,v7⟩:=x.vh s hs
 exact{
  hd:=by rw[d_ (i9 x.hd v6 (fun z=>by cases z))];exact x.hd
  hm:=by rw[d_ v3.symm];exact x.hm
  hn:=by rw[d_ v4.symm];exact x.hn
  hh:=by rw[d_ v5.symm];exact x.hh
  mn:=x.mn
  mh:=x.mh
  nh:=x.nh
  wm:=x.wm
  wn:=x.wn
  wh:=x.wh
  km:=x.km
  vm:=fun p hp=>by obtain⟨a,h1,h2⟩:=x.vm p hp;exact⟨a,h1,h2.dk v6⟩
  kn:=x.kn
  vn:=fun y hy=>by
   obtain⟨a,kv,l,h1,h2,h3,h4⟩:=x.vn y hy
   exact⟨a,kv,l,h1,h2,by rw[d_ (fun(z:a=π.ha s)=>h2 (by rw[z];exact v2))];exact h3,h4⟩
  kh:=x.kh
  vh:=fun t ht=>by
   obtain⟨h1,h2,h3,h4,h5,kv,h6,h7⟩:=x.vh t ht
   refine⟨h1,h2,h3,h4,h5,?_⟩
   show ∃kv:List (Key×V),_∧kv.map (·.1)=(if t=s then l else D.held t).map sk
   by_cases e:t=s
   ·subst e
    rw[aas rfl]
    exact⟨_,b_,hk⟩
   ·rw[aan e]
    exact⟨kv,by rw[d_ (fun z=>e (x.inj t ht s hs z))];exact h6,h7⟩
  inj:=x.inj
  dk:=fun b hb=>by
   by_cases e:b=π.ha s
   ·rw[e];exact⟨_,b_⟩
   ·obtain⟨kv,h⟩:=x.dk b hb;exact⟨kv,by rw[d_ e];exact h⟩}
section
variable{P:Program}{w:World}{K:Qqy}{mg:Qqx}{base:Heap}{A:Ad}
def LD(A:Ad):Sp:=fun vs H Q E=>∃(d:Addr)(D:Dk)(W:Addr→Prop)(s:Str),vs=[.ref d,.str s]∧iw A H d D W∧ki s∧D.stores.length<1000∧(¬Good s→E (.ref A.jj) none H)∧(Good s→s∈D.stores→E (.ref A.i6) none H)∧
 (Good s→s∉D.stores→∀H' W',iw A H' d (D.begin s) W'→qW W H H'→(∀b,W' b→W b∨H b=none)→Q .jn H')
theorem JP(T:Txt mg)(O:Ok K mg A):ik P w K mg base (sI P w) 2 A.vq A.vt ["self","store"] (LD A):=by
 have qC:=@tS P w K mg base A T O
 refine O.zG.f.p8 AF fun jx A0 outer s H vs Q E hr h=>?_
 obtain⟨d,D,W,st,rfl,X,hf,hlen,q1,q2,q3⟩:=h
 obtain⟨π,x⟩:=id X
 have sz:sizeLine=16777216:=aaC
 refine⟨_,(de (hG (UY bx O.uj qC hr (a_ (pv 1) e_)))
   (de (iE (i7 (mS (by exact iI hr) (pv 1) (gq (pv 0) rfl))) (fO (kc bx O.yc (by rfl) (lK (iu iV (iu (mV (pv 1)) (iu iV nQ)))))) ia)
   (fO (jc (by exact iI hr) (gq (pv 0) rfl) (pv 1) lI rfl)))),?_⟩
 refine EK ?_;intro _ _
 refine⟨_,rfl,st,rfl,hf,fun g=>?_,fun ng=>q1 ng⟩
 refine⟨_,rfl,_,rfl,d,A.gj,π.dx,_,_,rfl,x.hd,O.gw,O.iB,k7 _ _ _,π.h,_,rfl,iT.k (k:=sk st) x.hh,_,rfl,?_⟩
 rw[jC x.kh]
 by_cases hs:st∈D.stores
 ·rw[XU hs]
  refine mG ⟨_,rfl,by decide+kernel,⟨_,rfl,_,rfl,hf.1,_,rfl,hf.1,⟨_,rfl,by decide+kernel,fun _=>q2 g hs⟩⟩⟩
 ·rw[aah hs]
  refine kA ?_
  intro p sA
  have fr:∀{b o},H b=some o→b≠p:=fun e=>gb e sA
  have RZ:(upd H p (.dK [])) π.h=some (.dK π.kH):=by rw[d_ (fr x.hh)];exact x.hh
  have HP:=jk x.kh
  refine⟨_,rfl,d,A.gj,π.dx,_,_,rfl,by rw[d_ (fr x.hd)];exact x.hd,O.gw,O.iB,k7 _ _ _,_,rfl,π.h,_,rfl,l9.k (k:=sk st) RZ (by omega),?_⟩
  have s1:gg H (upd H p (.dK [])):=(gg.refl H).new sA
  have up:∀{b o},H b=some o→b≠π.h→upd (upd H p (.dK [])) π.h (.dK (putK π.kH (sk st) (.ref p))) b=some o:=fun{b o} e n=>by rw[d_ n];exact s1 _ _ e
  have WA:p≠π.h:=(fr x.hh).symm
  refine q3 g hs _ (fun b=>W b∨b=p) ⟨⟨π.dx,π.m,π.n,π.h,fun t=>if t=st then p else π.ha t,π.kM,π.kN,putK π.kH (sk st) (.ref p)⟩,?_⟩ (fun b o e nw=>?_) (fun b hb=>?_)
  ·exact{
    hd:=up x.hd (i9 x.hd x.hh (fun z=>by cases z))
    hm:=up x.hm x.mh
    hn:=up x.hn x.nh
    hh:=b_
    mn:=x.mn
    mh:=x.mh
    nh:=x.nh
    wm:=.inl x.wm
    wn:=.inl x.wn
    wh:=.inl x.wh
    km:=x.km
    vm:=fun q hq=>by obtain⟨a,h1,h2⟩:=x.vm q hq;exact⟨a,h1,(h2.same s1).dk RZ⟩
    kn:=x.kn
    vn:=fun y hy=>by
     obtain⟨a,kv,l,h1,h2,h3,h4⟩:=x.vn y hy
     exact⟨a,kv,l,h1,fun z=>z.elim h2 (fr h3),up h3 (fun(z:a=π.h)=>h2 (by rw[z];exact x.wh)),h4⟩
    kh:=nO x.kh hs _
    vh:=fun t ht=>by
     show iO (putK π.kH (sk st) (.ref p)) (sk t)=some (.ref (if t=st then p else π.ha t))∧(W (if t=st then p else π.ha t)∨(if t=st then p else π.ha t)=p)∧(if t=st then p else π.ha t)≠π.m∧(if t=st then p else π.ha t)≠π.n∧(if t=st then p else π.ha t)≠π.h∧∃kv:List (Key×V),(upd (upd H p (.dK [])) π.h (.dK (putK π.kH (sk st) (.ref p)))) (if t=st then p else π.ha t)=some (.dK kv)∧kv.map (·.1)=(if t=st then[] else D.held t).map sk
     rw[jY]
     by_cases e:t=st
     ·subst e
      rw[aas rfl,aas rfl,aas rfl]
      exact⟨rfl,.inr rfl,(fr x.hm).symm,(fr x.hn).symm,WA,[],by rw[d_ WA];exact b_,rfl⟩
     ·have P4:t∈D.stores:=(XX.mp ht).elim id fun z=>absurd (US.mp z) e
      rw[aan (fun z=>e (ab7 z)),aan e,aan e]
      obtain⟨h1,h2,h3,h4,h5,kv,h6,h7⟩:=x.vh t P4
      exact⟨h1,.inl h2,h3,h4,h5,kv,up h6 h5,h7⟩
    inj:=fun t ht u hu e=>by
     have e:(if t=st then p else π.ha t)=(if u=st then p else π.ha u):=e
     by_cases e1:t=st
     ·by_cases e2:u=st
      ·rw[e1,e2]
      ·have WB:u∈D.stores:=(XX.mp hu).elim id fun z=>absurd (US.mp z) e2
       rw[aas e1,aan e2] at e
       obtain⟨_,_,_,_,_,kv,h6,_⟩:=x.vh u WB
       exact absurd e.symm (fr h6)
     ·have P4:t∈D.stores:=(XX.mp ht).elim id fun z=>absurd (US.mp z) e1
      by_cases e2:u=st
      ·rw[aan e1,aas e2] at e
       obtain⟨_,_,_,_,_,kv,h6,_⟩:=x.vh t P4
       exact absurd e (fr h6)
      ·have WB:u∈D.stores:=(XX.mp hu).elim id fun z=>absurd (US.mp z) e2
       rw[aan e1,aan e2] at e
       exact x.inj t P4 u WB e
    dk:=fun b hb=>by
     by_cases e:b=π.h
     ·rw[e];exact⟨_,b_⟩
     ·rcases hb with hb|hb
      ·obtain⟨kv,h⟩:=x.dk b hb;exact⟨kv,up h e⟩
      ·rw[hb];exact⟨[],by rw[d_ WA];exact b_⟩}
  ·exact up e (fun(z:b=π.h)=>nw (by rw[z];exact x.wh))
  ·rcases hb with hb|hb
   ·exact .inl hb
   ·rw[hb];exact .inr sA
def Q4(A:Ad):Sp:=fun vs H Q E=>∃(d l:Addr)(D:Dk)(W:Addr→Prop)(x:Str)(fs:List Str),vs=[.ref d,.str x,.ref l]∧iw A H d D W∧H l=some (.lst (gh fs))∧fs.length≤1000∧(∀y∈x::fs,ki y)∧
 ((¬∀y∈x::fs,Good y)→∀H',gg H H'→E (.ref A.jj) none H')∧((∀y∈x::fs,Good y)→x∈D.names→∀H',gg H H'→E (.ref A.i6) none H')∧((∀y∈x::fs,Good y)→x∉D.names→∀H',gg H H'→Q .jn H')
theorem qy(T:Txt mg)(O:Ok K mg A):ik P w K mg base (sI P w) 2 A.pS A.pT ["self","patch","files"] (Q4 A):=by
 have qC:=@tS P w K mg base A T O
 refine O.lY.f.p8 oO fun jx A0 outer s H vs Q E hr h=>?_
 obtain⟨d,l,D,W,y,fs,rfl,X,hl,hfl,MM,q1,q2,q3⟩:=h
 obtain⟨π,x⟩:=id X
 have sz:sizeLine=16777216:=aaC
 refine⟨_,(de (iC IP rfl (ie (gm l8 (i8 (a_ (pv 1) e_)) (pv 2))) (rm 3 oO) (fO (hG (UY bx O.uj qC hr (a_ (pv 3) e_)))))
   (fO (iE (i7 (mS (by exact iI hr) (pv 1) (gq (pv 0) rfl))) (fO (kc bx O.yc (by rfl) (lK (iu iV (iu (mV (pv 1)) (iu iV nQ)))))) ia))),?_⟩
 refine HW ?_;intro _
 refine⟨_,rfl,L2.jQ,fun a ha=>?_⟩
 have s1:gg H (upd H a (.lst [V.str y])):=(gg.refl H).new ha
 refine⟨_,rfl,a,l,_,_,rfl,rfl,b_,s1 _ _ hl,by rw[RK];show 1+_≤_;omega,fun b hb=>?_⟩
 have s2:=s1.new (o:=.lst ([V.str y]++gh fs)) hb
 have OZ:(upd (upd H a (.lst [V.str y])) b (.lst ([V.str y]++gh fs))) b=some (.lst (gh (y::fs))):=b_
 generalize upd (upd H a (.lst [V.str y])) b (.lst ([V.str y]++gh fs))=H2 at s2 OZ
 let Jv:=fun(i:Nat) (σ:St) (H3:Hp)=>∃v,σ=[rr d,rs y,rr l,v]∧H3=H2∧∀z∈(y::fs).take i,Good z
 refine⟨b,rfl,⟨_,hV.of OZ⟩,iQ (K:=K) (a:=b) (xs:=gh (y::fs)) Jv ⟨none,rfl,rfl,fun z hz=>by rw[abz] at hz;cases hz⟩ (by rintro _ _ _ _ ⟨_,_,e,_⟩;rw[e];exact hV.of OZ) ?_ ?_⟩
 ·rintro i v σ H3 hx ⟨v0,rfl,rfl,hg⟩
  obtain⟨z,hz,rfl⟩:=jR hx
  refine⟨_,rfl,z,rfl,MM z (VI hz),fun g=>?_,fun ng=>q1 (fun h=>ng (h z (VI hz))) _ s2⟩
  refine⟨_,rfl,rfl,fun t ht=>?_⟩
  rw[take_snoc hz] at ht
  rcases XX.mp ht with ht|ht
  ·exact hg t ht
  ·rw[US.mp ht];exact g
 ·rintro σ H3 ⟨v0,rfl,rfl,hg⟩
  rw[RK,aaf] at hg
  refine⟨_,rfl,_,rfl,d,A.gj,π.dx,_,_,rfl,s2 _ _ x.hd,O.gw,O.iM,mL _ _ _,π.m,_,rfl,iT.k (k:=sk y) (s2 _ _ x.hm),_,rfl,?_⟩
  rw[jC x.km]
  have hf:=MM y aav
  by_cases hm:y∈D.names
  ·rw[XU hm]
   exact mG ⟨_,rfl,by decide+kernel,⟨_,rfl,_,rfl,hf.1,_,rfl,hf.1,⟨_,rfl,by decide+kernel,fun _=>q2 hg hm _ s2⟩⟩⟩
  ·rw[aah hm]
   exact q3 hg hm _ s2
def LF(A:Ad):Sp:=fun vs H Q E=>∃(d:Addr)(D:Dk)(W:Addr→Prop)(s:Str),vs=[.ref d,.str s]∧iw A H d D W∧ki s∧wN D.made.length∧(s∉D.names→E (.ref A.gk) none H)∧(s∈D.names→∀p,H p=none→Q (.ref p) (upd H p (.lst (gh (D.jz s)))))
theorem zR(T:Txt mg)(O:Ok K mg A):ik P w K mg base (sI P w) 2 A.vw A.vy ["self","patch"] (LF A):=by
 have l4:=@tT P w K mg base A T O
 refine O.mw.f.p8 tI fun jx A0 outer s H vs Q E hr h=>?_
 obtain⟨d,D,W,st,rfl,X,hf,jQ,qe,q⟩:=h
 obtain⟨π,x⟩:=id X
 have yw:D.made.length≤4000:=jQ
 have sz:sizeLine=16777216:=aaC
 refine⟨_,(de (hG (Ay bx (pv 0) O.gw O.nr l4 hr (a_ (pv 1) e_)))
   (fO (h_ (Gr (p3 vb (fZ nI).names [2] rfl (uT (gq (pv 0) rfl)) rfl (by decide+kernel) (fun _ _ _ _=>(iy (i:=2) tI.nd rfl (Or.inl rfl))) (fun _ _ _ _=>⟨_,l_ (i7 (mS (by exact iI hr) (pv 2) (xp hr (gq (pv 0) rfl) (pv 1)))),by(try simp only [j6]);rfl⟩) (fun _ _ _ _=>yG (pv 2))))))),?_⟩
 refine HW ?_;intro _
 refine⟨_,rfl,d,π.dx,_,rfl,x.hd,tR,_,rfl,d,D,W,st,rfl,X,hf,fun hs=>?_,fun hs=>qe hs⟩
 obtain⟨a,kv,l,v1,hnw,v2,v3,_,v4⟩:=x.vn st hs
 have qA:a≠π.m:=fun z=>hnw (by rw[z];exact x.wm)
 refine⟨_,rfl,d,A.gj,π.dx,_,_,rfl,x.hd,O.gw,O.iM,mL _ _ _,π.m,π.kM,rfl,x.hm,fun o uz=>?_⟩
 have HP:=jk x.km
 have MG:D.names.length=D.made.length:=by unfold Dk.names;rw[RK]
 have P2:d≠π.m:=i9 x.hd x.hm (fun z=>by cases z)
 have f:∀{b u},H b=some u→b≠π.m→upd H π.m (.mQ o (.dK π.kM)) b=some u:=fun{b u} e n=>by rw[d_ n];exact e
 refine Gu (by omega) (fun i ys σ H3=>∃(v2:Option V)(zs:List Str),σ=[rr d,rs st,v2]∧H3=upd H π.m (.mQ o (.dK π.kM))∧ys=gh zs∧zs=(D.names.take i).filter fun x=>x∈D.ij st) ⟨none,[],rfl,rfl,rfl,rfl⟩ (fun i ys σ H3 ⟨_,zs,_,e,e2,e3⟩=>?_) ?_ ?_
 ·rw[e,e2,e3]
  refine⟨b_,?_⟩
  rw[RK]
  exact aad (aaI _ _) (by rw[aap];omega)
 ·rintro i k v ys σ H3 hi ⟨v0,zs,rfl,rfl,rfl,e3⟩
  obtain⟨y,hy,rfl⟩:=pY x.km hi
  refine⟨_,rfl,_,rfl,d,A.gj,π.dx,_,_,rfl,f x.hd P2,O.gw,O.je,sT _ _ _,_,rfl,π.n,.ref a,rfl,?_,a,_,rfl,iT.k (k:=sk y) (f v2 qA),_,rfl,?_⟩
  ·have:=iT.k (k:=sk st) (f x.hn x.mn.symm)
   rw[v1] at this
   exact this
  ·rw[jC v3,take_snoc hy,aaM]
   by_cases hm:y∈D.ij st
   ·rw[XU ((v4 y).mpr hm)]
    refine mG ⟨_,rfl,_,_,rfl,rfl,iK _ _,?_⟩
    rw[e3,XZ (by simpa using hm),aaU]
   ·rw[aah (fun z=>hm ((v4 y).mp z))]
    refine kA ⟨_,_,rfl,rfl,rfl,?_⟩
    rw[e3,aaj (by simpa using hm),aaU,aaN]
 ·rintro ys σ H3 ⟨v0,zs,rfl,rfl,rfl,e3⟩ p sA
  rw[HP,aaf] at e3
  have FV:p≠π.m:=fun z=>by rw[z,b_] at sA;cases sA
  have FT:H p=none:=by rw[d_ FV] at sA;exact sA
  refine⟨π.m,o,_,by rw[d_ FV.symm];exact b_,uz,?_⟩
  rw[BW x.hm FV]
  have:=q hs p FT
  unfold Dk.jz at this
  rw[←e3] at this
  exact this
def Oh(A:Ad):Sp:=fun vs H Q _=>∃(d a:Addr)(D:Dk)(W:Addr→Prop)(s:Str)(p:Pt),vs=[.ref d,.str s,.ref a]∧iw A H d D W∧Inv D∧wN D.made.length∧s∈D.stores∧ou A H a p∧p.nm∉D.names∧wN p.ig.length∧wN p.i4.length∧(∀y∈il p,y∈D.names)∧
 ∀H',iw A H' d (D.keep s p) W→qW W H H'→Q .jn H'
theorem Cw(p:Pt):(il p).length≤p.i4.length+2*p.ig.length+1:=by
 unfold il
 rw[UZ,RK]
 have h1:=aaI (fun n:Nm=>decide (n.1≠p.nm)) (named p)
 have h2:=Bz p
 have h3:p.other.toList.length≤1:=by cases p.other<;>simp
 omega
theorem Cy(T:Txt mg)(O:Ok K mg A):ik P w K mg base mT 3 A.xQ A.xR ["self","store","patch"] (Oh A):=by
 have tj:=@su P w K mg base A T O
 refine O.sO.f.q0 qp fun jx A0 outer s H vs Q E hr h=>?_
 obtain⟨d,a,D,W,st,p,rfl,X,I,jQ,hs,ER,fresh,FU,Ey,yt,q⟩:=h
 obtain⟨π,x⟩:=id X
 have yw:D.made.length≤4000:=jQ
 have MJ:p.ig.length≤4000:=FU
 have Kf:p.i4.length≤4000:=Ey
 have sz:sizeLine=16777216:=aaC
 have MG:D.names.length=D.made.length:=by unfold Dk.names;rw[RK]
 have J4:=Cw p
 refine⟨_,(de (kX 3 qp lI)
   (de (iC aar rfl (ie (rl O.oX tj hr (a_ (pv 2) e_))) (rm 4 qp) (de (jc (by exact iI hr) (pv 3) (pv 4) lD rfl)
   (fO (hG (Jh (pv 3) (xp hr (gq (pv 0) rfl) (pv 4)) ⟨rfl,rfl,rfl,rfl⟩)))))
   (de (jc (by exact iI hr) (gq (pv 0) rfl) (gq (pv 2) rfl) (pv 3) rfl)
   (de (jc (by exact iI hr) (gq (pv 0) rfl) (gq (pv 2) rfl) (pv 2) rfl)
   (fO (jc (by exact iI hr) (xp hr (gq (pv 0) rfl) (pv 1)) (gq (pv 2) rfl) lD rfl)))))),?_⟩
 refine NH ?_;intro _ _ _ _
 intro nd Kv
 have s1:gg H (upd H nd (.dK [])):=(gg.refl H).new Kv
 have O7:(upd H nd (.dK [])) nd=some (.dK []):=b_
 generalize upd H nd (.dK [])=H1 at s1 O7
 refine⟨_,rfl,a,p,rfl,ER.same s1,FU,Ey,fun r H2 s2 qB EA=>?_⟩
 have CJ:=s1.trans s2
 have hrn:r≠nd:=fun z=>by rw[z,O7] at qB;cases qB
 have TU:¬W nd:=X.jn Kv
 let Jv:=fun(i:Nat) (σ:St) (H3:Hp)=>∃(v:Option V)(kv:List (Key×V))(l:List Str),σ=[rr d,rs st,rr a,rr nd,v]∧(∀b o,H2 b=some o→b≠nd→H3 b=some o)∧H3 nd=some (.dK kv)∧kv.map (·.1)=l.map sk∧l.Nodup∧∀y,y∈l↔∃z∈(il p).take i,y=z∨y∈D.ij z
 refine⟨r,rfl,⟨_,hV.of EA⟩,iQ (K:=K) (a:=r) (xs:=gh (il p)) Jv
  ⟨none,[],[],rfl,fun b o e _=>e,s2 _ _ O7,rfl,abb,fun y=>by simp⟩ (by rintro _ _ _ _ ⟨_,_,_,_,e,_⟩;exact hV.of (e _ _ EA hrn)) ?_ ?_⟩
 ·rintro i v σ H3 hx ⟨v0,kv,l,rfl,e1,e2,e3,e4,e5⟩
  obtain⟨z,hz,rfl⟩:=jR hx
  have hzm:z∈il p:=VI hz
  have Kg:z∈D.names:=yt z hzm
  obtain⟨az,kz,lz,z1,z2,z3,z4,z5,z6⟩:=x.vn z Kg
  have yu:∀y∈l,y∈D.names:=fun y hy=>by
   obtain⟨t,ht,h⟩:=(e5 y).mp hy
   have Y5:=yt t (abT ht)
   rcases h with h|h
   ·rw[h];exact Y5
   ·exact I.qd Y5 h
  have TB:=oj e4 yu
  have hlz:=oj z5 fun y hy=>I.qd Kg ((z6 y).mp hy)
  have HP:=jk e3
  have hkz:=jk z4
  have YD:=ju kv (sk z) (V.bl true)
  have WC:az≠nd:=fun e=>by rw[e,Kv] at z3;cases z3
  refine⟨_,rfl,_,rfl,nd,_,rfl,l9.k (k:=sk z) e2 (by omega),?_⟩
  have up:∀{b o},H b=some o→upd H3 nd (.dK (putK kv (sk z) (V.bl true))) b=some o:=fun{b o} e=>by
   have n:b≠nd:=fun z=>by rw[z,Kv] at e;cases e
   rw[d_ n];exact e1 _ _ (CJ _ _ e) n
  refine⟨_,rfl,nd,rfl,.inl ⟨_,.inl b_⟩,_,rfl,d,A.gj,π.dx,_,_,rfl,up x.hd,O.gw,O.je,sT _ _ _,_,rfl,π.n,.ref az,rfl,?_,az,_,kz,rfl,b_,.inl (up z3),WC.symm,by omega,?_⟩
  ·have:=iT.k (k:=sk z) (up x.hn)
   rw[z1] at this
   exact this
  ·obtain⟨l',w1,w2,w3⟩:=BA kz _ (zQ l z) lz (sU e3 z (V.bl true)) z4 (yM e4)
   refine⟨_,_,l',rfl,fun b o e n=>by rw[d_ n,d_ n];exact e1 b o e n,b_,w1,w2,fun y=>?_⟩
   rw[w3 y,sx,e5 y,z6 y,take_snoc hz]
   constructor
   ·rintro((⟨t,ht,h⟩|h)|h)
    ·exact⟨t,aat _ ht,h⟩
    ·exact⟨z,by simp,.inl h⟩
    ·exact⟨z,by simp,.inr h⟩
   ·rintro⟨t,ht,h⟩
    rcases XX.mp ht with ht|ht
    ·exact .inl (.inl ⟨t,ht,h⟩)
    ·rw[US.mp ht] at h
     exact h.elim (fun h=>.inl (.inr h)) .inr
 ·rintro σ H3 ⟨v0,kv,l,rfl,e1,e2,e3,e4,e5⟩
  rw[RK,aaf] at e5
  have s3:gg H H3:=fun b o e=>e1 b o (CJ _ _ e) (fun z=>by rw[z,Kv] at e;cases e)
  obtain⟨dx,vf,pu,cu,vo,g1,g2⟩:=ER.same s3
  have y:=x.same s3
  have hnM:=jk x.km
  have hnN:=jk x.kn
  obtain⟨v1,v2,v3,v4,v5,Wz,v6,v7⟩:=y.vh st hs
  have hkv0:=jk v7
  have WD:=oj (I.uV st hs) fun t ht=>(I.ly st hs t ht).1
  refine⟨_,rfl,_,rfl,d,A.gj,π.dx,_,_,rfl,y.hd,O.gw,O.je,sT _ _ _,_,rfl,a,A.gz,dx,_,_,rfl,g1,O.iZ,O.iY,sd,π.n,_,rfl,l9.k (k:=sk p.nm) y.hn (by omega),?_⟩
  have f1:∀{b o},H3 b=some o→b≠π.n→upd H3 π.n (.dK (putK π.kN (sk p.nm) (.ref nd))) b=some o:=fun{b o} e n=>by rw[d_ n];exact e
  have Kx:d≠π.n:=i9 y.hd y.hn (fun z=>by cases z)
  have P5:a≠π.n:=i9 g1 y.hn (fun z=>by cases z)
  have P2:d≠π.m:=i9 y.hd y.hm (fun z=>by cases z)
  have ham:a≠π.m:=i9 g1 y.hm (fun z=>by cases z)
  refine⟨_,rfl,_,rfl,d,A.gj,π.dx,_,_,rfl,f1 y.hd Kx,O.gw,O.iM,mL _ _ _,_,rfl,a,A.gz,dx,_,_,rfl,f1 g1 P5,O.iZ,O.iY,sd,π.m,_,rfl,l9.k (k:=sk p.nm) (f1 y.hm x.mn) (by omega),?_⟩
  have f2:∀{b o},H3 b=some o→b≠π.n→b≠π.m→upd (upd H3 π.n (.dK (putK π.kN (sk p.nm) (.ref nd)))) π.m (.dK (putK π.kM (sk p.nm) (.ref a))) b=some o:=fun{b o} e n m=>by rw[d_ m];exact f1 e n
  refine⟨_,rfl,d,A.gj,π.dx,_,_,rfl,f2 y.hd Kx P2,O.gw,O.iB,k7 _ _ _,_,rfl,π.h,.ref (π.ha st),rfl,?_,_,rfl,a,A.gz,dx,_,_,rfl,f2 g1 P5 ham,O.iZ,O.iY,sd,π.ha st,_,rfl,l9.k (k:=sk p.nm) (f2 v6 v4 v3) (by omega),?_⟩
  ·have:=iT.k (k:=sk st) (f2 y.hh x.nh.symm x.mh.symm)
   rw[v1] at this
   exact this
  ·have hpn:p.nm∉D.held st:=fun z=>fresh (I.ly st hs _ z).1
   have f3:∀{b o},H3 b=some o→b≠π.n→b≠π.m→b≠π.ha st→upd (upd (upd H3 π.n (.dK (putK π.kN (sk p.nm) (.ref nd)))) π.m (.dK (putK π.kM (sk p.nm) (.ref a)))) (π.ha st) (.dK (putK Wz (sk p.nm) (V.bl true))) b=some o:=fun{b o} e n m h=>by rw[d_ h];exact f2 e n m
   have f4:∀{b q},ou A H3 b q→ou A (upd (upd (upd H3 π.n (.dK (putK π.kN (sk p.nm) (.ref nd)))) π.m (.dK (putK π.kM (sk p.nm) (.ref a)))) (π.ha st) (.dK (putK Wz (sk p.nm) (V.bl true)))) b q:=fun z=>((z.dk y.hn).dk (f1 y.hm x.mn)).dk (f2 v6 v4 v3)
   have nW:∀{b},¬W b→b≠π.n∧b≠π.m∧b≠π.ha st:=fun{b} h=>⟨fun z=>h (by rw[z];exact x.wn),fun z=>h (by rw[z];exact x.wm),fun z=>h (by rw[z];exact v2)⟩
   refine q _ ⟨{π with kM:=putK π.kM (sk p.nm) (.ref a),kN:=putK π.kN (sk p.nm) (.ref nd)},?_⟩ fun b o e n=>f3 (s3 _ _ e) (nW n).1 (nW n).2.1 (nW n).2.2
   have FX:(D.keep st p).names=D.names++[p.nm]:=by
    show(D.made++[p]).map (·.nm)=_
    rw[aau];rfl
   exact{
    hd:=f3 y.hd Kx P2 (i9 y.hd v6 (fun z=>by cases z))
    hm:=by
     show upd _ (π.ha st) _ π.m=_
     rw[d_ v3.symm];exact b_
    hn:=by
     show upd _ (π.ha st) _ π.n=_
     rw[d_ v4.symm,d_ x.mn.symm];exact b_
    hh:=f3 y.hh x.nh.symm x.mh.symm v5.symm
    mn:=x.mn
    mh:=x.mh
    nh:=x.nh
    wm:=x.wm
    wn:=x.wn
    wh:=x.wh
    km:=by rw[FX];exact nO x.km fresh _
    vm:=fun q hq=>by
     show ∃b,iO (putK π.kM (sk p.nm) (.ref a)) (sk q.nm)=some (.ref b)∧_
     rw[jY]
     rcases XX.mp hq with hq|hq
     ·obtain⟨b,w1,w2⟩:=y.vm q hq
      have qA:q.nm≠p.nm:=fun z=>fresh (by rw[←z];exact aaa hq)
      rw[aan (fun z=>qA (ab7 z))]
      exact⟨b,w1,f4 w2⟩
     ·rw[US.mp hq,aas rfl]
      exact⟨a,rfl,f4 (ER.same s3)⟩
    kn:=by rw[FX];exact nO x.kn fresh _
    vn:=fun t ht=>by
     rw[FX] at ht
     show ∃(b:Addr)(kv:List (Key×V))(l:List Str),iO (putK π.kN (sk p.nm) (.ref nd)) (sk t)=some (.ref b)∧¬W b∧_∧kv.map (·.1)=l.map sk∧l.Nodup∧∀u,u∈l↔u∈(if t=p.nm then qb D.ij p else D.ij t)
     rw[jY]
     by_cases e:t=p.nm
     ·rw[aas (by rw[e]),aas e]
      refine⟨nd,kv,l,rfl,TU,f3 e2 (nW TU).1 (nW TU).2.1 (nW TU).2.2,e3,e4,fun u=>?_⟩
      rw[e5 u]
      unfold qb
      rw[aa6]
      exact⟨fun⟨z,h1,h2⟩=>⟨z,h1,XW.mpr h2⟩,fun⟨z,h1,h2⟩=>⟨z,h1,XW.mp h2⟩⟩
     ·rw[aan (fun z=>e (ab7 z)),aan e]
      have P4:t∈D.names:=(XX.mp ht).elim id fun z=>absurd (US.mp z) e
      obtain⟨b,WE,l',w1,w2,w3,w4⟩:=y.vn t P4
      exact⟨b,WE,l',w1,w2,f3 w3 (nW w2).1 (nW w2).2.1 (nW w2).2.2,w4⟩
    kh:=x.kh
    vh:=fun t ht=>by
     obtain⟨h1,h2,h3,h4,h5,WE,h6,h7⟩:=y.vh t ht
     refine⟨h1,h2,h3,h4,h5,?_⟩
     show ∃kv:List (Key×V),_∧kv.map (·.1)=(if t=st then D.held st++[p.nm] else D.held t).map sk
     by_cases e:t=st
     ·subst e
      rw[aas rfl]
      exact⟨_,b_,nO v7 hpn _⟩
     ·rw[aan e]
      exact⟨WE,f3 h6 h4 h3 (fun z=>e (x.inj t ht st hs z)),h7⟩
    inj:=x.inj
    dk:=fun b hb=>by
     by_cases h1:b=π.ha st
     ·rw[h1];exact⟨_,b_⟩
     ·by_cases h2:b=π.m
      ·rw[h2,d_ v3.symm];exact⟨_,b_⟩
      ·by_cases h3:b=π.n
       ·rw[h3,d_ v4.symm,d_ x.mn.symm];exact⟨_,b_⟩
       ·obtain⟨kv,h⟩:=y.dk b hb
        exact⟨kv,f3 h h3 h2 h1⟩}
theorem HA(D:Dk)(s x:Str):D.take s x=wQ D s (D.held s++D.oq s x):=rfl
theorem HB(D:Dk)(s x:Str):D.drop s x=wQ D s ((D.held s).filter fun y=>y≠x):=rfl
theorem HC(D:Dk)(s:Str)(l l':List Str):wQ (wQ D s l) s l'=wQ D s l':=by
 unfold wQ
 congr 1
 funext t
 show(if t=s then l' else(if t=s then l else D.held t))=_
 by_cases e:t=s
 ·rw[aas e,aas e]
 ·rw[aan e,aan e,aan e]
theorem HD(D:Dk)(s:Str):wQ D s (D.held s)=D:=by
 cases D
 unfold wQ
 congr 1
 funext t
 show(if t=s then _ else _)=_
 by_cases e:t=s
 ·rw[aas e,e]
 ·rw[aan e]
def Oi(A:Ad):Sp:=fun vs H Q E=>∃(d:Addr)(D:Dk)(W:Addr→Prop)(s c x:Str),vs=[.ref d,.str s,.str c,.str x]∧iw A H d D W∧Inv D∧wN D.made.length∧ki s∧ki c∧ki x∧
 (s∉D.stores→E (.ref A.iL) none H)∧(s∈D.stores→c∉D.stores→E (.ref A.iL) none H)∧(s∈D.stores→c∈D.stores→x∉D.held c→E (.ref A.gk) none H)∧
 (s∈D.stores→c∈D.stores→x∈D.held c→∀p H1 H',gg H H1→H1 p=none→H' p=some (.lst (gh (D.oq s x)))→iw A H' d (D.take s x) W→qW W (upd H1 p (.lst (gh (D.oq s x)))) H'→Q (.ref p) H')
theorem FJ{D:Dk}(I:Inv D){s x:Str}(hx:x∈D.names):(D.oq s x).Nodup∧∀y∈D.oq s x,y∈D.names∧y∉D.held s:=by
 refine⟨?_,fun y hy=>?_⟩
 ·refine ab6 aaV ?_
  rw[aa2]
  refine⟨ab6 aaV I.nd,by simp,fun a ha b hb z=>?_⟩
  rw[US.mp hb] at z
  subst z
  exact I.Bj hx (aaB (aaq.mp ha).2)
 ·obtain⟨h1,h2⟩:=aaq.mp hy
  refine⟨?_,aaB h2⟩
  rcases XX.mp h1 with h|h
  ·exact(aaq.mp h).1
  ·rw[US.mp h];exact hx
theorem LG(T:Txt mg)(O:Ok K mg A):ik P w K mg base (sI P w) 3 A.xJ A.xK ["self","store","source","patch"] (Oi A):=by
 have ic:=@j0 P w K mg base A T O
 have jL:=@pb P w K mg base A T O
 have kR:=@zR P w K mg base A T O
 refine O.Bp.f.p8 lS fun jx A0 outer s H vs Q E hr h=>?_
 obtain⟨d,D,W,st,c,y,rfl,X,I,jQ,hf,Y6,FW,q1,q2,q3,q4⟩:=h
 obtain⟨π,x⟩:=id X
 have yw:D.made.length≤4000:=jQ
 have sz:sizeLine=16777216:=aaC
 have MG:D.names.length=D.made.length:=by unfold Dk.names;rw[RK]
 refine⟨_,(de (hG (Ay bx (pv 0) O.gw O.iU ic hr (a_ (pv 1) e_)))
   (de (hG (Ay bx (pv 0) O.gw O.iU ic hr (a_ (pv 2) e_)))
   (de (hG (Ay bx (pv 0) O.gw O.lj jL hr (a_ (pv 2) (a_ (pv 3) e_))))
   (de (kX 4 lS (gm l8 (Ay bx (pv 0) O.gw O.mw kR hr (a_ (pv 3) e_)) (i8 (a_ (pv 3) e_))))
   (de (BU (j:=5) xv (fZ oI).names [6] lS.nd rfl rfl rfl (ie (pv 4)) rfl (by decide+kernel) (fun _ _ _ _=>(iy (i:=6) lS.nd rfl (Or.inl rfl))) (fun _ _ _ _=>⟨_,l_ (i7 (kG (by exact iI hr) (pv 6) (xp hr (gq (pv 0) rfl) (pv 1)))),by(try simp only [j6]);rfl⟩) (fun _ _ _ _=>yG (pv 6)))
   (de (iC IP rfl (ie (pv 5)) (rm 6 lS) (fO (jc (by exact iI hr) (xp hr (gq (pv 0) rfl) (pv 1)) (pv 6) lD rfl)))
   (fO (h_ (pv 5))))))))),?_⟩
 refine S5 ?_;intro _ _ _ _ _ _
 refine⟨_,rfl,d,π.dx,_,rfl,x.hd,jB,_,rfl,d,D,W,st,rfl,X,hf,fun hs=>?_,fun hs=>q1 hs⟩
 refine⟨_,rfl,d,π.dx,_,rfl,x.hd,jB,_,rfl,d,D,W,c,rfl,X,Y6,fun hc=>?_,fun hc=>q2 hs hc⟩
 refine⟨_,rfl,d,π.dx,_,rfl,x.hd,o_,_,rfl,_,rfl,d,D,W,c,y,rfl,X,Y6,FW,hc,fun hy=>?_,fun hy=>q3 hs hc hy⟩
 have Y7:y∈D.names:=(I.ly c hc y hy).1
 have TB:(D.jz y).length≤D.names.length:=aaI _ _
 refine⟨_,rfl,d,π.dx,_,rfl,x.hd,vJ,_,rfl,d,D,W,y,rfl,X,FW,jQ,fun h=>absurd Y7 h,fun _ p sA=>?_⟩
 have s1:=(gg.refl H).new (o:=.lst (gh (D.jz y))) sA
 refine⟨_,rfl,L2.jQ,fun b hb=>?_⟩
 have s2:=s1.new (o:=.lst [V.str y]) hb
 refine⟨p,b,_,_,rfl,rfl,ix hb b_,b_,by rw[RK];show _+1≤_;omega,fun wt PZ=>?_⟩
 have s3:=s2.new (o:=.lst (gh (D.jz y)++[V.str y])) PZ
 have WG:(upd (upd (upd H p (.lst (gh (D.jz y)))) b (.lst [V.str y])) wt (.lst (gh (D.jz y)++[V.str y]))) wt=some (.lst (gh (D.jz y++[y]))):=by rw[b_,iK]
 generalize upd (upd (upd H p (.lst (gh (D.jz y)))) b (.lst [V.str y])) wt (.lst (gh (D.jz y)++[V.str y]))=H3 at s3 WG
 have x3:=x.same s3
 obtain⟨v1,v2,v3,v4,v5,kv,v6,v7⟩:=x3.vh st hs
 refine⟨_,rfl,wt,rfl,⟨_,hV.of WG⟩,jE (K:=K) (a:=wt) (xs:=gh (D.jz y++[y])) (by rw[RK,UZ];show _+1≤_;omega) (fun i ys σ H4=>∃(v6:Option V)(zs:List Str),σ=[rr d,rs st,rs c,rs y,rr wt,none,v6]∧H4=H3∧ys=gh zs∧zs.length≤i∧zs=((D.jz y++[y]).take i).filter fun z=>z∉D.held st)
  ⟨none,[],rfl,rfl,rfl,U0 _,rfl⟩ (by rintro _ _ _ _ _ ⟨_,zs,_,e,e2,e3,_⟩;rw[e,e2];exact⟨hV.of WG,by rw[RK];exact e3⟩) ?_ ?_⟩
 ·rintro i v ys σ H4 hx ⟨WH,zs,rfl,rfl,rfl,e3,e4⟩
  obtain⟨z,hz,rfl⟩:=jR hx
  refine⟨_,rfl,_,rfl,d,A.gj,π.dx,_,_,rfl,x3.hd,O.gw,O.iB,k7 _ _ _,_,rfl,π.h,.ref (π.ha st),rfl,?_,π.ha st,_,rfl,iT.k (k:=sk z) v6,_,rfl,?_⟩
  ·have:=iT.k (k:=sk st) x3.hh
   rw[v1] at this
   exact this
  ·rw[jC v7,take_snoc hz,aaM]
   by_cases hm:z∈D.held st
   ·rw[XU hm]
    refine kA ⟨_,_,rfl,rfl,rfl,by omega,?_⟩
    rw[e4,aaj (by simpa using hm),aaU,aaN]
   ·rw[aah hm]
    refine mG ⟨_,rfl,_,_,rfl,rfl,iK _ _,Mn,?_⟩
    rw[e4,XZ (by simpa using hm),aaU]
 ·rintro ys σ H4 ⟨WH,zs,rfl,rfl,rfl,e3,e4⟩ cm MA
  have e0:(gh (D.jz y++[y])).length=(D.jz y++[y]).length:=by rw[RK]
  rw[e0,aaf] at e4
  have e4:zs=D.oq st y:=e4
  subst e4
  obtain⟨Y8,Y9⟩:=FJ (s:=st) I Y7
  have EN:=oj Y8 fun t ht=>(Y9 t ht).1
  have s4:=s3.new (o:=.lst (gh (D.oq st y))) MA
  have x4:=x.same s4
  have Kh:(upd H4 cm (.lst (gh (D.oq st y)))) cm=some (.lst (gh (D.oq st y))):=b_
  have Su:¬W cm:=fun z=>by obtain⟨kv,e⟩:=x4.dk cm z;rw[Kh] at e;cases e
  have Sv:=fun H' a b c=>q4 hs hc hy cm H4 H' s3 MA a b c
  generalize upd H4 cm (.lst (gh (D.oq st y)))=H5 at s4 x4 Kh Sv
  dsimp only [l6];refine IV ?_;intro _
  let Jv:=fun(i:Nat) (σ:St) (H6:Hp)=>∃(v6:Option V)(π':Dp),σ=[rr d,rs st,rs c,rs y,rr wt,rr cm,v6]∧Mr A H6 d (wQ D st (D.held st++(D.oq st y).take i)) W π'∧qW W H5 H6
  refine⟨_,rfl,cm,rfl,⟨_,hV.of Kh⟩,iQ (K:=K) (a:=cm) (xs:=gh (D.oq st y)) Jv
   ⟨none,π,rfl,by rw[abz,aaN,HD];exact x4,fun b o e _=>e⟩ (by rintro _ _ _ _ ⟨_,_,_,_,e⟩;exact hV.of (e _ _ Kh Su)) ?_ ?_⟩
  ·rintro i v σ H6 hx ⟨WH,π',rfl,x6,e6⟩
   obtain⟨z,hz,rfl⟩:=jR hx
   have hi:i<(D.oq st y).length:=(RO.mp hz).1
   obtain⟨w1,w2,w3,w4,w5,Y_,w6,w7⟩:=x6.vh st hs
   have w7:Y_.map (·.1)=(D.held st++(D.oq st y).take i).map sk:=by
    rw[w7]
    show(if st=st then _ else _:List Str).map sk=_
    rw[aas rfl]
   have HP:=jk w7
   have WD:=oj (I.uV st hs) fun t ht=>(I.ly st hs t ht).1
   rw[UZ,aap] at HP
   refine⟨_,rfl,d,A.gj,π'.dx,_,_,rfl,x6.hd,O.gw,O.iB,k7 _ _ _,_,rfl,π'.h,.ref (π'.ha st),rfl,?_,_,rfl,π'.ha st,_,rfl,l9.k (k:=sk z) w6 (by omega),?_⟩
   ·have:=iT.k (k:=sk st) x6.hh
    rw[w1] at this
    exact this
   ·have Sw:z∉D.held st++(D.oq st y).take i:=fun hm=>by
     rcases XX.mp hm with hm|hm
     ·exact(Y9 z (VI hz)).2 hm
     ·obtain⟨j,hj⟩:=aaP.mp hm
      have FR:j<i:=by have:=(RO.mp hj).1;rw[aap] at this;omega
      rw[abD,aas FR] at hj
      have:=(abJ (RO.mp hj).1 Y8).mp (hj.trans hz.symm)
      omega
    have x7:=x6.wQ (l:=D.held st++(D.oq st y).take (i+1)) (kv:=putK Y_ (sk z) (V.bl true)) hs (by rw[take_snoc hz,←aaS];exact nO w7 Sw _)
    rw[HC] at x7
    exact⟨_,π',rfl,x7,fun b o e n=>by rw[d_ (fun(z:b=π'.ha st)=>n (by rw[z];exact w2))];exact e6 b o e n⟩
  ·rintro σ H6 ⟨WH,π',rfl,x6,e6⟩
   rw[RK,aaf,←HA] at x6
   exact⟨_,rfl,Sv H6 (e6 _ _ Kh Su) ⟨π',x6⟩ e6⟩
def Oj(A:Ad):Sp:=fun vs H Q E=>∃(d:Addr)(D:Dk)(W:Addr→Prop)(s x:Str),vs=[.ref d,.str s,.str x]∧iw A H d D W∧Inv D∧wN D.made.length∧ki s∧ki x∧(∀z∈D.names,ki z)∧
 (s∉D.stores→E (.ref A.iL) none H)∧(s∈D.stores→x∉D.held s→E (.ref A.gk) none H)∧(s∈D.stores→x∈D.held s→¬(∀z∈D.held s,x∉D.ij z)→E (.ref A.oW) none H)∧(s∈D.stores→x∈D.held s→(∀z∈D.held s,x∉D.ij z)→∀H',iw A H' d (D.drop s x) W→qW W H H'→Q .jn H')
theorem LH(T:Txt mg)(O:Ok K mg A):ik P w K mg base (sI P w) 2 A.xM A.xN ["self","store","patch"] (Oj A):=by
 have ic:=@j0 P w K mg base A T O
 have jL:=@pb P w K mg base A T O
 refine O.Bq.f.p8 va fun jx A0 outer s H vs Q E hr h=>?_
 obtain⟨d,D,W,st,y,rfl,X,I,jQ,hf,FW,hfz,q1,q2,q3,q5⟩:=h
 obtain⟨π,x⟩:=id X
 have yw:D.made.length≤4000:=jQ
 have sz:sizeLine=16777216:=aaC
 refine⟨_,(de (hG (Ay bx (pv 0) O.gw O.iU ic hr (a_ (pv 1) e_)))
   (de (hG (Ay bx (pv 0) O.gw O.lj jL hr (a_ (pv 1) (a_ (pv 2) e_))))
   (de (sJ (iC IP rfl (uT (xp hr (gq (pv 0) rfl) (pv 1))) (rm 3 va) (fO (iE (i7 (mS (by exact iI hr) (pv 2) (xp hr (gq (pv 0) rfl) (pv 3)))) (fO (Jl (kc bx O.Ll (by rfl) (lK (iu (mV (pv 3)) (iu iV (iu (mV (pv 2)) nQ))))))) ia))))
   (fO (hG (IF (xp hr (gq (pv 0) rfl) (pv 1)) (pv 2) ⟨rfl,rfl,rfl,rfl⟩)))))),?_⟩
 refine K3 ?_;intro _ _ _
 refine⟨_,rfl,d,π.dx,_,rfl,x.hd,jB,_,rfl,d,D,W,st,rfl,X,hf,fun hs=>?_,fun hs=>q1 hs⟩
 refine⟨_,rfl,d,π.dx,_,rfl,x.hd,o_,_,rfl,_,rfl,d,D,W,st,y,rfl,X,hf,FW,hs,fun hy=>?_,fun hy=>q2 hs hy⟩
 obtain⟨v1,v2,v3,v4,v5,kv,v6,v7⟩:=x.vh st hs
 have Za:iT H π.h (.str st) (some (.ref (π.ha st))):=by
  have:=iT.k (k:=sk st) x.hh
  rw[v1] at this
  exact this
 refine⟨_,rfl,d,A.gj,π.dx,_,_,rfl,x.hd,O.gw,O.iB,k7 _ _ _,_,rfl,π.h,.ref (π.ha st),rfl,Za,π.ha st,kv,rfl,v6,fun o uz=>?_⟩
 have f:∀{b u},H b=some u→b≠π.ha st→upd H (π.ha st) (.mQ o (.dK kv)) b=some u:=fun{b u} e n=>by rw[d_ n];exact e
 have PN:d≠π.ha st:=i9 x.hd v6 (fun z=>by cases z)
 let Jv:=fun(i:Nat) (σ:St) (H3:Hp)=>∃(v:Option V),σ=[rr d,rs st,rs y,v]∧H3=upd H (π.ha st) (.mQ o (.dK kv))∧∀z∈(D.held st).take i,y∉D.ij z
 refine za (d:=π.ha st) (o:=o) (kvs:=kv) Jv ⟨none,rfl,rfl,fun z hz=>by rw[abz] at hz;cases hz⟩ (by rintro _ _ _ ⟨_,_,e,_⟩;rw[e];exact b_) ?_ ?_
 ·rintro i k v σ H3 hi ⟨v0,rfl,rfl,HL⟩
  obtain⟨z,hz,rfl⟩:=pY v7 hi
  have TV:z∈D.held st:=VI hz
  have Kg:=(I.ly st hs z TV).1
  obtain⟨a,ka,la,w1,w2,w3,w4,_,w6⟩:=x.vn z Kg
  refine⟨_,rfl,_,rfl,d,A.gj,π.dx,_,_,rfl,f x.hd PN,O.gw,O.je,sT _ _ _,_,rfl,π.n,.ref a,rfl,?_,a,_,rfl,iT.k (k:=sk y) (f w3 (fun z=>w2 (by rw[z];exact v2))),_,rfl,?_⟩
  ·have:=iT.k (k:=sk z) (f x.hn v4.symm)
   rw[w1] at this
   exact this
  ·rw[jC w4]
   by_cases TX:y∈D.ij z
   ·rw[XU ((w6 y).mpr TX)]
    refine mG ⟨π.ha st,o,_,b_,uz,?_⟩
    rw[sL v6]
    have Tr:=(hfz z Kg).1
    exact⟨_,rfl,_,rfl,Tr,_,rfl,Tr,⟨_,rfl,by decide+kernel,⟨_,rfl,_,rfl,FW.1,_,rfl,FW.1,fun _=>q3 hs hy fun h=>h z TV TX⟩⟩⟩
   ·rw[aah (fun h=>TX ((w6 y).mp h))]
    refine kA ⟨_,rfl,rfl,fun t ht=>?_⟩
    rw[take_snoc hz] at ht
    rcases XX.mp ht with ht|ht
    ·exact HL t ht
    ·rw[US.mp ht];exact TX
 ·rintro σ H3 ⟨v0,rfl,rfl,CG⟩
  have HP:=jk v7
  rw[HP,aaf] at CG
  have q4:=q5 hs hy CG
  refine⟨π.ha st,o,_,b_,uz,?_⟩
  rw[sL v6]
  have CH:∃v,iO kv (sk y)=some v:=by
   have:=jC v7 y
   rw[XU hy] at this
   exact Option.isSome_iff_exists.mp this
  obtain⟨vv,hvv⟩:=CH
  refine⟨_,rfl,d,A.gj,π.dx,_,_,rfl,x.hd,O.gw,O.iB,k7 _ _ _,_,rfl,π.h,.ref (π.ha st),rfl,Za,π.ha st,rfl,.inl ⟨_,.inl v6⟩,_,rfl,kv,sk y,vv,v6,rfl,hvv,?_⟩
  refine q4 _ ⟨π,?_⟩ fun b u e n=>by rw[d_ (fun(z:b=π.ha st)=>n (by rw[z];exact v2))];exact e
  rw[HB]
  exact x.wQ hs (FH v7)
theorem zS(l:List Str):Paired (fun(x:Str) (v:V)=>v=.str x) l (gh l):=by
 induction l with
 | nil=>exact .nil
 | cons x r ih=>exact .cons rfl ih
theorem Cz{n:Nat}{K:Qqy}{H:Hp}{a c:Addr}{x y:List Str}(h1:hV K H a (gh x))(h2:hV K H c (gh y)):sX K H (n+1) (.ref a) (.ref c) (decide (x=y)):=
 sX.K2 (F:=fun(x:Str) (v:V)=>v=.str x) (fun p q u v hu hv=>by subst hu hv;exact sX.NA p q) h1 h2 (zS x) (zS y)
def Mt(n:Int):Int→List Int→Prop
 | _,[]=>True
 | l,p::r=>(l≤p∧p<n)∧Mt n (p+1) r
def JQ(A:Ad):Sp:=fun vs H Q E=>∃(a:Addr)(ps:List Int)(n:Int),vs=[.ref a,.int n]∧H a=some (.lst (ps.map V.int))∧(∀p∈ps,p.natAbs.log2<1920)∧(Mt n 0 ps→Q .jn H)∧(¬Mt n 0 ps→E (.ref A.lU) none H)
theorem yr(T:Txt mg)(O:Ok K mg A):ik P w K mg base (sI P w) 1 A.rK A.rL ["places","size"] (JQ A):=by
 refine O.vA.f.p8 lg fun jx A0 outer s H vs Q E hr h=>?_
 obtain⟨a,ps,n,rfl,ha,O8,q,qe⟩:=h
 refine⟨_,(de (kX 2 lg f_)
   (fO (iC IP rfl (ie (pv 0)) (rm 3 lg) (de (iE (q8 (Dg Im Gi (pv 2) (pv 3) (pv 1))) (fO (kc bx O.Jy (by rfl) (lK (iu iV (iu (IX (pv 3)) (iu iV nQ)))))) ia)
   (fO (kX 2 lg (gm iJ (pv 3) f_))))))),?_⟩
 refine HW ?_;intro _
 let Jv:=fun(i:Nat) (σ:St) (H2:Hp)=>∃(l:Int)(v:Option V),σ=[rr a,ri n,ri l,v]∧H2=H∧(Mt n 0 ps↔Mt n l (ps.drop i))
 refine⟨_,rfl,a,rfl,⟨_,hV.of ha⟩,iQ (K:=K) (a:=a) (xs:=ps.map V.int) Jv ⟨0,none,rfl,rfl,Iff.rfl⟩ (by rintro _ _ _ _ ⟨_,_,_,e,_⟩;rw[e];exact hV.of ha) ?_ ?_⟩
 ·rintro i v σ H2 hx ⟨l,v0,rfl,rfl,e⟩
  rw[aak] at hx
  obtain⟨p,hp,rfl⟩:=aaF.mp hx
  have hi:i<ps.length:=(RO.mp hp).1
  have hd:ps.drop i=p::ps.drop (i+1):=by rw[aaT hi];congr 1;exact(RO.mp hp).2
  rw[hd] at e
  have hl:=O8 p (VI hp)
  refine⟨_,rfl,_,rfl,_,_,rfl,rfl,_,rfl,?_⟩
  refine kI (fun h1=>?_) (fun h1=>?_)
  ·have h1:l≤p:=by simpa using h1
   refine⟨_,rfl,_,_,rfl,rfl,_,rfl,?_⟩
   refine kI (fun h2=>?_) (fun h2=>?_)
   ·have h2:¬p<n:=by simpa using h2
    refine⟨_,rfl,by decide+kernel,⟨_,rfl,_,rfl,hl,_,rfl,?_⟩⟩
    exact⟨aad (PyProof.Rows.int_text_len_1921 hl) (by decide),⟨_,rfl,by decide+kernel,fun _=>qe fun z=>h2 (e.mp z).1.2⟩⟩
   ·have h2:p<n:=by simpa using h2
    refine⟨_,rfl,_,_,rfl,rfl,_,_,rfl,rfl,e.trans ⟨fun z=>z.2,fun z=>⟨⟨h1,h2⟩,z⟩⟩⟩
  ·have h1:¬l≤p:=by simpa using h1
   refine⟨_,rfl,?_⟩
   refine⟨_,rfl,by decide+kernel,⟨_,rfl,_,rfl,hl,_,rfl,?_⟩⟩
   exact⟨aad (PyProof.Rows.int_text_len_1921 hl) (by decide),⟨_,rfl,by decide+kernel,fun _=>qe fun z=>h1 (e.mp z).1.1⟩⟩
 ·rintro σ H2 ⟨l,v0,rfl,rfl,e⟩
  rw[RK,acj] at e
  exact q (e.mpr trivial)
def Q5(A:Ad):Sp:=fun vs H Q E=>∃(d t:Addr)(D:Dk)(W:Addr→Prop)(s x f:Str)(texts:List Str),vs=[.ref d,.str s,.str x,.str f,.ref t]∧iw A H d D W∧Inv D∧Small D.made∧(D.made.flatMap (·.ig)).length≤1000∧ki s∧ki x∧ki f∧H t=some (.lst (gh texts))∧texts.length≤1000∧
 (s∉D.stores→E (.ref A.iL) none H)∧
 (s∈D.stores→¬(Good x∧Good f)→∀H',gg H H'→E (.ref A.jj) none H')∧
 (s∈D.stores→Good x→Good f→x∈D.names→∀H',gg H H'→E (.ref A.i6) none H')∧
 (s∈D.stores→Good x→Good f→x∉D.names→D.DQ s f≠[]→∀H',gg H H'→E (.ref A.j4) none H')∧
 (s∈D.stores→Good x→Good f→x∉D.names→D.DQ s f=[]→(D.row s f).map (·.tx)=texts→∀H',gg H H'→E (.ref A.qt) none H')∧
 (s∈D.stores→Good x→Good f→x∉D.names→D.DQ s f=[]→(D.row s f).map (·.tx)≠texts→∀H',iw A H' d (D.keep s (mI x f (D.row s f) texts)) W→qW W H H'→Q .jn H')
theorem lC{x f:Str}:(∀y∈[x,f],Good y)↔Good x∧Good f:=by
 constructor
 ·exact fun h=>⟨h x (by simp),h f (by simp)⟩
 ·rintro⟨h1,h2⟩ y hy
  rcases XW.mp hy with z|z
  ·rw[z];exact h1
  ·rw[US.mp z];exact h2
theorem vK{D:Dk}(I:Inv D){s f x:Str}(hs:s∈D.stores)(texts:List Str):∀y∈il (mI x f (D.row s f) texts),y∈D.names:=by
 intro y hy
 unfold il at hy
 rcases XX.mp hy with hy|hy
 ·obtain⟨m,hm,rfl⟩:=aaH.mp hy
  obtain⟨hm,hn⟩:=aaq.mp hm
  have hn:m.1≠x:=aaB hn
  have fin:m∈(D.row s f).map (·.nm)→m.1∈D.names:=fun h=>by
   obtain⟨l,hl,rfl⟩:=aaH.mp h
   obtain⟨p,h1,_,h3⟩:=I.uX hl
   have hp:=(Inv.k_.mp h1).1
   rw[qc (I.Gy p hp) (aaa h3)]
   exact aaa hp
  rcases XX.mp hm with hm|hm
  ·obtain⟨l,hl,rfl⟩:=aaH.mp hm
   exact fin (aaa (aaq.mp hl).1)
  ·obtain⟨l,hl,hm⟩:=aa6.mp hm
   have OR:l.up=some m∨l.lo=some m:=by
    rcases XX.mp hm with hm|hm
    ·exact .inl (by simpa using hm)
    ·exact .inr (by simpa using hm)
   rcases yI texts 0 0 none l hl m OR with(z|⟨t,z⟩)|z
   ·cases z
   ·obtain⟨q,_,_,l',LY,rfl⟩:=B1 z
    exact fin (aaa (VI LY))
   ·rw[uU] at z
    obtain⟨j,_,rfl⟩:=aaH.mp z
    exact absurd rfl hn
 ·cases hy
theorem vL{x f:Str}{row:List Ln}{texts:List Str}:(mI x f row texts).ig.length≤texts.length∧(mI x f row texts).i4.length≤row.length:=by
 have rise:=sM (row.map (·.tx)) texts
 rw[RK] at rise
 have h:=Gw rise x
 refine⟨by show(kC x texts _).length≤_;omega,?_⟩
 show((row.filter _).map _).length≤_
 rw[RK]
 exact aaI _ _
theorem HE(T:Txt mg)(O:Ok K mg A):ik P w K mg base (sI P w) 6 A.tL A.tM ["self","store","patch","file","texts"] (Q5 A):=by
 have ic:=@j0 P w K mg base A T O
 have j3:=@qy P w K mg base A T O
 have jl:=@oZ P w K mg base A T O
 have kW:=@sr P w K mg base A T O
 have w_:=@vI P w K mg base A T O
 have mO:=@Cy P w K mg base A T O
 refine O.yb.f.p8 n9 fun jx A0 outer s H vs Q E hr h=>?_
 obtain⟨d,t,D,W,st,y,f,texts,rfl,X,I,sm,WI,zZ,FW,O9,ht,J9,q1,q2,q3,q4,q5,q6⟩:=h
 obtain⟨π,x⟩:=id X
 have sz:sizeLine=16777216:=aaC
 have EM:(D.row st f).length≤1000:=aad (I.uY st f) WI
 refine⟨_,(de (hG (Ay bx (pv 0) O.gw O.iU ic hr (a_ (pv 1) e_)))
   (de (hG (Ay bx (pv 0) O.gw O.lY j3 hr (a_ (pv 2) (a_ (i8 (a_ (pv 3) e_)) e_))))
   (de (kX 5 n9 (Ay bx (pv 0) O.gw O.kZ jl hr (a_ (pv 1) (a_ (pv 3) e_))))
   (de (iE (uL (yU (pv 5) O.j9 O.jI.t kW (hr.mono (by decide)) O.jI.b .nil oC) (fun _=>rfl)) (fO (kc bx O.D9 (by rfl) (lK (iu iV (iu (mV (pv 3)) (iu iV nQ)))))) ia)
   (de (iE (ip (IK 3 (by exact UW hr)) (xn tH (fZ mz).names [6] rfl (ie (gq (pv 5) rfl)) rfl (by decide+kernel) (fun _ _ _ _=>(iy (i:=6) n9.nd rfl (Or.inl rfl))) (fun _ _ _ _=>mU) (fun _ _ _ _=>yG (gq (pv 6) rfl))) (pv 4) (iN _)) (fO (kc bx O.Jz (by rfl) (lK (iu iV (iu (mV (pv 3)) (iu iV nQ)))))) ia)
   (fO (hG (Ax (pv 0) O.gw O.sO mO hr (a_ (pv 1) (a_ (rl O.r9 w_ hr (a_ (pv 2) (a_ (pv 3) (a_ (gq (pv 5) rfl) (a_ (pv 4) e_))))) e_)))))))))),?_⟩
 refine Qy ?_;intro _ _ _ _ _
 refine⟨_,rfl,d,π.dx,_,rfl,x.hd,jB,_,rfl,d,D,W,st,rfl,X,zZ,fun hs=>?_,fun hs=>q1 hs⟩
 refine⟨_,rfl,d,π.dx,_,rfl,x.hd,qx,_,rfl,_,rfl,L2.jQ,fun l hl=>?_⟩
 have s1:gg H (upd H l (.lst [V.str f])):=(gg.refl H).new hl
 refine⟨d,l,D,W,y,[f],rfl,X.same s1,b_,by show 1≤1000;decide,fun z hz=>?_,fun h H' s'=>q2 hs (fun g=>h (lC.mpr g)) H' (s1.trans s'),fun h hn H' s'=>q3 hs (lC.mp h).1 (lC.mp h).2 hn H' (s1.trans s'),fun h hn H2 s2=>?_⟩
 ·rcases XW.mp hz with z|z
  ·rw[z];exact FW
  ·rw[US.mp z];exact O9
 obtain⟨gy,gf⟩:=lC.mp h
 have CJ:=s1.trans s2
 have X2:=X.same CJ
 refine⟨_,rfl,d,π.dx,_,rfl,CJ _ _ x.hd,oY,_,rfl,_,rfl,d,D,W,st,f,rfl,X2,zZ,sm,I,fun h=>absurd hs h,fun _ p H3 s3 sA sg=>?_⟩
 obtain⟨px,ah,ln,g1,g2,⟨as,g3,g4⟩⟩:=id sg
 have L5:=CJ.trans s3
 have hlen:=aao g4
 refine⟨_,rfl,p,px,_,rfl,g1,JJ ah ln,p,_,_,rfl,sg,JO I st f,aad EM (by decide),fun r H4 vs s4 qB EA EO=>?_⟩
 have ML:=L5.trans s4
 have MH:=aao EO
 by_cases hq:D.DQ st f=[]
 case neg=>
  have WJ:vs≠[]:=fun z=>hq (by
   have e:(kY (Ah (hU (D.qM st) f)) (D.row st f)).length=0:=by rw[MH,z];rfl
   exact aaO.mp e)
  refine⟨true,.inl ⟨_,hV.of EA,by simpa using WJ⟩,mG ?_⟩
  exact⟨_,rfl,by decide+kernel,⟨_,rfl,_,rfl,O9.1,_,rfl,O9.1,⟨_,rfl,by decide+kernel,fun _=>q4 hs gy gf hn hq _ ML⟩⟩⟩
 have WJ:vs=[]:=by
  have e:(kY (Ah (hU (D.qM st) f)) (D.row st f)).length=0:=by rw[show kY (Ah (hU (D.qM st) f)) (D.row st f)=[] from hq];rfl
  rw[MH] at e
  exact aaO.mp e
 refine⟨false,.inl ⟨_,hV.of EA,by rw[WJ];rfl⟩,kA ?_⟩
 have Zb:=s4 _ _ g1
 have WK:=s4 _ _ g3
 let Jv:=fun(i:Nat) (ys:List V) (σ:St) (H5:Hp)=>∃(v6:Option V),σ=[rr d,rs st,rs y,rs f,rr t,rr p,v6]∧H5=H4∧ys=gh (((D.row st f).take i).map (·.tx))
 refine⟨_,rfl,p,A.ib,px,_,_,rfl,Zb,O.j9,O.iq,lB ah ln,ln,rfl,⟨_,hV.of WK⟩,jE (K:=K) (a:=ln) (xs:=as.map V.ref) (by rw[RK];omega) Jv
  ⟨none,rfl,rfl,rfl⟩ (by rintro _ _ _ _ _ ⟨_,_,e,e2⟩;rw[e,e2];exact⟨hV.of WK,by rw[RK,RK,aap];omega⟩) ?_ ?_⟩
 ·rintro i v ys σ H5 hx ⟨v6,rfl,rfl,rfl⟩
  obtain⟨b,hb,rfl⟩:=j_ hx
  obtain⟨l2,HK,dx,vn,vu,vl,k1,k2,k3,k4⟩:=ir g4 hb
  refine⟨_,rfl,b,A.g_,dx,_,_,rfl,s4 _ _ k1,O.iG,O.js,vC,_,rfl,rfl,?_⟩
  rw[take_snoc HK,aau,iK]
  rfl
 ·rintro ys σ H5 ⟨v6,rfl,rfl,rfl⟩ o TM
  rw[RK,hlen,aaf]
  have s5:=ML.new (o:=.lst (gh ((D.row st f).map (·.tx)))) TM
  have L6:gg H5 (upd H5 o (.lst (gh ((D.row st f).map (·.tx))))):=(gg.refl H5).new TM
  refine⟨_,rfl,_,⟨o,t,rfl,rfl⟩,Cz (hV.of b_) (hV.of (s5 _ _ ht)),_,rfl,?_⟩
  by_cases he:(D.row st f).map (·.tx)=texts
  ·rw[XU he]
   refine mG ?_
   exact⟨_,rfl,by decide+kernel,⟨_,rfl,_,rfl,O9.1,_,rfl,O9.1,⟨_,rfl,by decide+kernel,fun _=>q5 hs gy gf hn hq he _ s5⟩⟩⟩
  ·rw[aah he]
   refine kA ?_
   have X5:=X.same s5
   refine⟨_,rfl,d,π.dx,_,rfl,s5 _ _ x.hd,Cu,_,rfl,_,rfl,_,rfl,_,rfl,p,A.ib,px,_,_,rfl,L6 _ _ Zb,O.j9,O.iq,lB ah ln,_,rfl,y,f,ln,t,D.row st f,texts,rfl,⟨as,L6 _ _ WK,Paired.kS g4 fun _ _ z=>(z.same s4).same L6⟩,s5 _ _ ht,EM,J9,fun pa H6 s6 hpa0 WL=>?_⟩
   have Sx:=s5.trans s6
   obtain⟨cl1,cl2⟩:=vL (x:=y) (f:=f) (row:=D.row st f) (texts:=texts)
   refine⟨d,pa,D,W,st,_,rfl,X.same Sx,I,sm.many,hs,WL,hn,aad cl1 (aad J9 (by decide)),aad cl2 (aad EM (by decide)),vK I hs texts,fun H7 X7 s7=>?_⟩
   exact q6 hs gy gf hn hq he H7 X7 fun b o e n=>s7 b o (Sx _ _ e) n
def Ol(A:Ad):Sp:=fun vs H Q E=>∃(d:Addr)(D:Dk)(W:Addr→Prop)(s x o:Str),vs=[.ref d,.str s,.str x,.str o]∧iw A H d D W∧Inv D∧wN D.made.length∧ki s∧ki x∧ki o∧
 (s∉D.stores→E (.ref A.iL) none H)∧(s∈D.stores→¬Good x→∀H',gg H H'→E (.ref A.jj) none H')∧(s∈D.stores→Good x→x∈D.names→∀H',gg H H'→E (.ref A.i6) none H')∧
 (s∈D.stores→Good x→x∉D.names→o∉D.held s→∀H',gg H H'→E (.ref A.gk) none H')∧
 (s∈D.stores→Good x→x∉D.names→o∈D.held s→∀H',iw A H' d (D.keep s ⟨x,none,[],[],some o⟩) W→qW W H H'→Q .jn H')
theorem zT{x:Str}:(∀y∈[x],Good y)↔Good x:=⟨fun h=>h x (by simp),fun h y hy=>by rw[US.mp hy];exact h⟩
theorem LI(T:Txt mg)(O:Ok K mg A):ik P w K mg base (sI P w) 4 A.xH A.xI ["self","store","patch","other"] (Ol A):=by
 have ic:=@j0 P w K mg base A T O
 have j3:=@qy P w K mg base A T O
 have jL:=@pb P w K mg base A T O
 have j2:=@o9 P w K mg base A T O
 have mO:=@Cy P w K mg base A T O
 refine O.Bo.f.p8 B8 fun jx A0 outer s H vs Q E hr h=>?_
 obtain⟨d,D,W,st,y,ot,rfl,X,I,jQ,zZ,FW,hfo,q1,q2,q3,q4,q5⟩:=h
 obtain⟨π,x⟩:=id X
 refine⟨_,(de (hG (Ay bx (pv 0) O.gw O.iU ic hr (a_ (pv 1) e_)))
   (de (hG (Ay bx (pv 0) O.gw O.lY j3 hr (a_ (pv 2) (a_ (i8 e_) e_))))
   (de (hG (Ay bx (pv 0) O.gw O.lj jL hr (a_ (pv 1) (a_ (pv 3) e_))))
   (fO (hG (Ax (pv 0) O.gw O.sO mO hr (a_ (pv 1) (a_ (uN O.Ce j2 (hr.mono (by decide)) (by rfl) O.Cf O.lW.b .nil oC (a_ (pv 2) (a_ tW (a_ (i8 e_) (a_ (i8 e_) (a_ (pv 3) e_)))))) e_)))))))),?_⟩
 refine K3 ?_;intro _ _ _
 refine⟨_,rfl,d,π.dx,_,rfl,x.hd,jB,_,rfl,d,D,W,st,rfl,X,zZ,fun hs=>?_,fun hs=>q1 hs⟩
 refine⟨_,rfl,d,π.dx,_,rfl,x.hd,qx,_,rfl,L2.jQ,fun l hl=>?_⟩
 have s1:gg H (upd H l (.lst [])):=(gg.refl H).new hl
 refine⟨d,l,D,W,y,[],rfl,X.same s1,b_,by show 0≤1000;decide,fun z hz=>by rw[US.mp hz];exact FW,fun h H' s'=>q2 hs (fun g=>h (zT.mpr g)) H' (s1.trans s'),fun h hn H' s'=>q3 hs (zT.mp h) hn H' (s1.trans s'),fun h hn H2 s2=>?_⟩
 have gy:=zT.mp h
 have CJ:=s1.trans s2
 refine⟨_,rfl,d,π.dx,_,rfl,CJ _ _ x.hd,o_,_,rfl,_,rfl,d,D,W,st,ot,rfl,X.same CJ,zZ,hfo,hs,fun ho=>?_,fun ho=>q4 hs gy hn ho _ CJ⟩
 refine⟨_,rfl,d,π.dx,_,rfl,CJ _ _ x.hd,Cu,_,rfl,_,rfl,L2.jQ,fun a ha=>⟨L2.jQ,fun b hb=>⟨_,rfl,?_⟩⟩⟩
 have s3:=CJ.new (o:=.lst []) ha
 have s4:=s3.new (o:=.lst []) hb
 intro o dx no O4 Wm
 refine⟨o,dx,_,_,_,_,_,rfl,b_,fun H5 r6 r7=>⟨rfl,?_⟩⟩
 have s5:gg (upd (upd H2 a (.lst [])) b (.lst [])) H5:=fun c u ec=>by
  rw[r6 c (gb ec no),d_ (gb ec no),d_ (gb ec O4)]
  exact ec
 have TY:=s4.trans s5
 have pt:ou A H5 o ⟨y,none,[],[],some ot⟩:=⟨dx,_,a,b,.str ot,r7,rfl,⟨[],s5 _ _ (ix hb b_),.nil⟩,⟨[],s5 _ _ b_,.nil⟩,rfl⟩
 refine⟨d,o,D,W,st,_,rfl,X.same TY,I,jQ,hs,pt,hn,aaK _,aaK _,fun z hz=>?_,fun H7 X7 s7=>?_⟩
 ·have:z=ot:=by simpa[il,named] using hz
  rw[this];exact(I.ly st hs ot ho).1
 ·exact q5 hs gy hn ho H7 X7 fun b o e n=>s7 b o (TY _ _ e) n
def Q6(A:Ad):Sp:=fun vs H Q E=>∃(d t:Addr)(D:Dk)(W:Addr→Prop)(s x f:Str)(ps:List Int),vs=[.ref d,.str s,.str x,.str f,.ref t]∧iw A H d D W∧Inv D∧Small D.made∧ki s∧ki x∧ki f∧H t=some (.lst (ps.map V.int))∧ps.length≤1000∧(∀p∈ps,p.natAbs.log2<1920)∧
 (s∉D.stores→E (.ref A.iL) none H)∧
 (s∈D.stores→¬(Good x∧Good f)→∀H',gg H H'→E (.ref A.jj) none H')∧
 (s∈D.stores→Good x→Good f→x∈D.names→∀H',gg H H'→E (.ref A.i6) none H')∧
 (s∈D.stores→Good x→Good f→x∉D.names→¬Mt (D.row s f).length 0 ps→∀H',gg H H'→E (.ref A.lU) none H')∧
 (s∈D.stores→Good x→Good f→x∉D.names→ps=[]→∀H',gg H H'→E (.ref A.qt) none H')∧
 (s∈D.stores→Good x→Good f→x∉D.names→Mt (D.row s f).length 0 ps→ps≠[]→∀H',iw A H' d (D.keep s ⟨x,some f,[],ps.filterMap fun p=>((D.row s f)[p.toNat]?).map (·.nm),none⟩) W→qW W H H'→Q .jn H')
theorem GG{n:Int}:∀{l:Int} {ps:List Int},0≤l→Mt n l ps→∀p∈ps,0≤p∧p<n
 | _,[],_,_,p,hp=>by cases hp
 | l,q::r,h0,h,p,hp=>by
  obtain⟨⟨h1,h2⟩,h3⟩:=h
  rcases XW.mp hp with rfl|hp
  ·exact⟨by omega,h2⟩
  ·exact GG (by omega) h3 p hp
theorem Om(T:Txt mg)(O:Ok K mg A):ik P w K mg base (sI P w) 6 A.zB A.zC ["self","store","patch","file","places"] (Q6 A):=by
 have ic:=@j0 P w K mg base A T O
 have j3:=@qy P w K mg base A T O
 have jl:=@oZ P w K mg base A T O
 have Aa:=@yr P w K mg base A T O
 have j2:=@o9 P w K mg base A T O
 have mO:=@Cy P w K mg base A T O
 refine O.D7.f.p8 rF fun jx A0 outer s H vs Q E hr h=>?_
 obtain⟨d,t,D,W,st,y,f,ps,rfl,X,I,sm,zZ,FW,O9,ht,J9,O8,q1,q2,q3,q4,q5,q6⟩:=h
 obtain⟨π,x⟩:=id X
 have sz:sizeLine=16777216:=aaC
 have EM:(D.row st f).length≤4000:=aad (I.uY st f) sm.ig
 refine⟨_,(de (hG (Ay bx (pv 0) O.gw O.iU ic hr (a_ (pv 1) e_)))
   (de (hG (Ay bx (pv 0) O.gw O.lY j3 hr (a_ (pv 2) (a_ (i8 (a_ (pv 3) e_)) e_))))
   (de (lE (i:=5) rF.nd rfl (Or.inr rfl) (gq (Ay bx (pv 0) O.gw O.kZ jl hr (a_ (pv 1) (a_ (pv 3) e_))) rfl))
   (de (hG (UY bx O.vA Aa hr (a_ (pv 4) (a_ (hZ gn (by rfl) T.jP aay (a_ (pv 5) e_)) e_))))
   (de (iE (q8 (uL (pv 4) (fun _=>rfl))) (fO (kc bx O.Jz (by rfl) iV)) ia)
   (fO (hG (Ax (pv 0) O.gw O.sO mO hr (a_ (pv 1) (a_ (uN O.Ce j2 (hr.mono (by decide)) (by rfl) O.Cf O.lW.b .nil oC (a_ (pv 2) (a_ (pv 3) (a_ (i8 e_) (a_ (xn zu (fZ ql).names [6] rfl (ie (pv 4)) rfl (by decide+kernel) (fun _ _ _ _=>(iy (i:=6) rF.nd rfl (Or.inl rfl))) (fun _ _ _ _=>mU) (fun _ _ _ _=>yG (gq (Az (pv 5) (pv 6)) rfl))) (a_ tW e_)))))) e_)))))))))),?_⟩
 refine Qy ?_;intro _ _ _ _ _
 refine⟨_,rfl,d,π.dx,_,rfl,x.hd,jB,_,rfl,d,D,W,st,rfl,X,zZ,fun hs=>?_,fun hs=>q1 hs⟩
 refine⟨_,rfl,d,π.dx,_,rfl,x.hd,qx,_,rfl,_,rfl,L2.jQ,fun l hl=>?_⟩
 have s1:gg H (upd H l (.lst [V.str f])):=(gg.refl H).new hl
 refine⟨d,l,D,W,y,[f],rfl,X.same s1,b_,by show 1≤1000;decide,fun z hz=>?_,fun h H' s'=>q2 hs (fun g=>h (lC.mpr g)) H' (s1.trans s'),fun h hn H' s'=>q3 hs (lC.mp h).1 (lC.mp h).2 hn H' (s1.trans s'),fun h hn H2 s2=>?_⟩
 ·rcases XW.mp hz with z|z
  ·rw[z];exact FW
  ·rw[US.mp z];exact O9
 obtain⟨gy,gf⟩:=lC.mp h
 have CJ:=s1.trans s2
 have X2:=X.same CJ
 refine⟨_,rfl,d,π.dx,_,rfl,CJ _ _ x.hd,oY,_,rfl,_,rfl,d,D,W,st,f,rfl,X2,zZ,sm,I,fun h=>absurd hs h,fun _ p H3 s3 sA ⟨px,ah,ln,g1,g2,⟨as,g3,g4⟩⟩=>?_⟩
 have L5:=CJ.trans s3
 have hlen:=aao g4
 have el:((as.map V.ref).length:Int)=((D.row st f).length:Int):=by rw[RK,hlen]
 refine⟨p,A.ib,px,_,_,rfl,g1,O.j9,O.iq,lB ah ln,?_⟩
 refine⟨_,rfl,_,rfl,ln,_,rfl,.inl (hV.of g3),?_⟩
 rw[el]
 refine⟨t,ps,_,rfl,L5 _ _ ht,O8,fun ok=>?_,fun nok=>q4 hs gy gf hn nok _ L5⟩
 by_cases TZ:ps=[]
 ·refine⟨_,rfl,false,.inl ⟨_,hV.of (L5 _ _ ht),by rw[TZ];rfl⟩,?_⟩
  exact q5 hs gy gf hn TZ _ L5
 ·refine⟨_,rfl,true,.inl ⟨_,hV.of (L5 _ _ ht),by simpa using TZ⟩,?_⟩
  refine kA ?_
  refine⟨_,rfl,d,π.dx,_,rfl,L5 _ _ x.hd,Cu,_,rfl,_,rfl,_,rfl,L2.jQ,fun a ha=>?_⟩
  have s4:=L5.new (o:=.lst []) ha
  have O_:gg H3 (upd H3 a (.lst [])):=(gg.refl H3).new ha
  have TR:(upd H3 a (.lst [])) a=some (.lst []):=b_
  generalize upd H3 a (.lst [])=H4 at s4 O_ TR
  let Jv:=fun(i:Nat) (ys:List V) (σ:St) (H5:Hp)=>∃(v6:Option V),σ=[rr d,rs st,rs y,rs f,rr t,rr ln,v6]∧H5=H4∧ys.length≤i∧Paired (kP H3) ys ((ps.take i).filterMap fun p=>((D.row st f)[p.toNat]?).map (·.nm))
  refine⟨_,rfl,t,rfl,⟨_,hV.of (s4 _ _ ht)⟩,jE (K:=K) (a:=t) (xs:=ps.map V.int) (by rw[RK];omega) Jv
   ⟨none,rfl,rfl,U0 _,.nil⟩ (by rintro _ _ _ _ _ ⟨_,_,e,e2,_⟩;rw[e];exact⟨hV.of (s4 _ _ ht),e2⟩) ?_ ?_⟩
  ·rintro i v ys σ H5 hx ⟨v6,rfl,rfl,e2,e3⟩
   rw[aak] at hx
   obtain⟨pl,o3,rfl⟩:=aaF.mp hx
   obtain⟨b1,b2⟩:=GG (by decide) ok pl (VI o3)
   have lq:pl.toNat<(D.row st f).length:=by omega
   have Ew:(D.row st f)[pl.toNat]?=some (D.row st f)[pl.toNat]:=VN lq
   obtain⟨b,hb,dx,vn,vu,vl,k1,⟨nt,rfl,k2⟩,k3,k4⟩:=zM g4 Ew
   refine⟨_,rfl,_,rfl,ln,_,_,_,rfl,rfl,hV.of (O_ _ _ g3),iF (j:=pl.toNat) (by omega) hb,b,A.g_,dx,_,_,rfl,O_ _ _ k1,O.iG,O.hE,i0,?_⟩
   refine⟨_,rfl,rfl,Mn,?_⟩
   rw[take_snoc o3,abP,abu,Ew]
   exact iD e3 ⟨nt,rfl,k2⟩
  ·rintro ys σ H5 ⟨v6,rfl,rfl,e2,e3⟩ c hc
   rw[RK,aaf] at e3
   have s5:=s4.new (o:=.lst ys) hc
   intro o dx no O4 Wm
   refine⟨o,dx,_,_,_,_,_,rfl,b_,fun H6 r6 r7=>⟨rfl,?_⟩⟩
   have s6:gg (upd H5 c (.lst ys)) H6:=fun b u ec=>by
    rw[r6 b (gb ec no),d_ (gb ec no),d_ (gb ec O4)]
    exact ec
   have Sx:=s5.trans s6
   have s36:gg H3 H6:=(O_.new hc).trans s6
   have pt:ou A H6 o ⟨y,some f,[],ps.filterMap fun p=>((D.row st f)[p.toNat]?).map (·.nm),none⟩:=⟨dx,_,a,c,.jn,r7,rfl,⟨[],s6 _ _ (ix hc TR),.nil⟩,⟨ys,s6 _ _ b_,Paired.kS e3 fun _ _ z=>z.same s36⟩,rfl⟩
   have EN:(ps.filterMap fun p=>((D.row st f)[p.toNat]?).map (·.nm)).length≤4000:=aad (List.length_filterMap_le _ _) (by omega)
   refine⟨d,o,D,W,st,_,rfl,X.same Sx,I,sm.many,hs,pt,hn,aaK _,EN,fun z hz=>?_,fun H7 X7 s7=>q6 hs gy gf hn ok TZ H7 X7 fun b o e n=>s7 b o (Sx _ _ e) n⟩
   unfold il at hz
   rcases XX.mp hz with hz|hz
   ·obtain⟨m,hm,rfl⟩:=aaH.mp hz
    have hm:=(aaq.mp hm).1
    have hm:m∈(ps.filterMap fun p=>((D.row st f)[p.toNat]?).map (·.nm)):=by simpa[named] using hm
    obtain⟨pl,_,o3⟩:=ab4.mp hm
    obtain⟨l',LY,rfl⟩:=aaF.mp o3
    obtain⟨q,h1,_,h3⟩:=I.uX (VI LY)
    have hq:=(Inv.k_.mp h1).1
    rw[qc (I.Gy q hq) (aaa h3)]
    exact aaa hq
   ·cases hz
noncomputable def cellAt(ns:List Int)(k:Int):Int:=(ns[k.toNat]?).getD 0
noncomputable def CA(i:Int):Str:=⟨#[(l7.cps[(i%36).toNat]?).getD 0]⟩
noncomputable def j1(cell k:Int):Nat→Str
 | 0=>Str.ofString ""
 | j+1=>j1 cell k j++(if(j:Int)=cell/12%(1+cell%12) then CA (k+cell/144) else CA (cell/144+5*(j:Int)+cell/5184%2*k*7))
noncomputable def nameOf(cell k:Int):Str:=j1 cell k (1+cell%12).toNat
theorem CB:l7.length=36:=by decide+kernel
theorem JR:l7.cps.size=36:=CB
theorem CC(a b:Str):(a++b).cps.toList=a.cps.toList++b.cps.toList:=Array.toList_append
theorem GH(a b:Str):(a++b).length=a.length+b.length:=Array.size_append
theorem yN(i:Int):∃c,E9 l7.cps.toList (i%36)=some c∧CA i=⟨#[c]⟩∧c∈l7.cps.toList:=by
 have b:=mod_lt i 36 (by decide)
 obtain⟨c,e,ev⟩:=rh (xs:=l7.cps.toList) b.1 (by rw[aa9,JR];exact b.2)
 rw[aa8] at ev
 exact⟨c,e,by unfold CA;rw[ev];rfl,VI (i:=(i%36).toNat) (by rw[aa8];exact ev)⟩
theorem vM(cell k:Int):∀j,(j1 cell k j).length=j∧∀c∈(j1 cell k j).cps.toList,c∈l7.cps.toList
 | 0=>⟨by unfold j1;decide+kernel,fun c hc=>by
   have:(j1 cell k 0).cps.toList=[]:=by unfold j1;decide+kernel
   rw[this] at hc;cases hc⟩
 | j+1=>by
  have ⟨h1,h2⟩:=vM cell k j
  unfold j1
  obtain⟨c1,_,e1,m1⟩:=yN (k+cell/144)
  obtain⟨c2,_,e2,m2⟩:=yN (cell/144+5*(j:Int)+cell/5184%2*k*7)
  split
  ·rw[e1,GH,CC]
   refine⟨by rw[h1];rfl,fun c hc=>?_⟩
   rcases XX.mp hc with hc|hc
   ·exact h2 c hc
   ·rw[US.mp hc];exact m1
  ·rw[e2,GH,CC]
   refine⟨by rw[h1];rfl,fun c hc=>?_⟩
   rcases XX.mp hc with hc|hc
   ·exact h2 c hc
   ·rw[US.mp hc];exact m2
theorem nP(cell k:Int):Good (nameOf cell k):=by
 obtain⟨h1,h2⟩:=vM cell k (1+cell%12).toNat
 have b:=mod_lt cell 12 (by decide)
 exact⟨by unfold nameOf;rw[h1];omega,by unfold nameOf;rw[h1];omega,h2⟩
theorem GI{x:Str}(h:x.length≤1000)(hc:∀c∈x.cps.toList,c<1114112):ki x:=by
 refine⟨?_,h⟩
 have z:=PySem.StrLaws.reprText_len x fun c BD=>Nat.lt_trans (hc c BD) (by decide)
 omega
theorem JS:∀c∈l7.cps.toList,c<1114112:=by decide+kernel
theorem Good.AS{x:Str}(g:Good x):ki x:=GI (by have:=g.2.1;omega) fun c hc=>JS c (g.2.2 c hc)
noncomputable def zU(i:Int):Nat:=(l7.cps[(i%36).toNat]?).getD 0
theorem BB{i j:Int}(h:zU i=zU j):i%36=j%36:=by
 have key:∀a<36,∀b<36,(l7.cps[a]?).getD 0=(l7.cps[b]?).getD 0→a=b:=by decide+kernel
 have b1:=mod_lt i 36 (by decide)
 have b2:=mod_lt j 36 (by decide)
 have:=key (i%36).toNat (by omega) (j%36).toNat (by omega) h
 omega
theorem yO(cell k:Int):∀n j,j<n→(j1 cell k n).cps.toList[j]?=some (if(j:Int)=cell/12%(1+cell%12) then zU (k+cell/144) else zU (cell/144+5*(j:Int)+cell/5184%2*k*7))
 | 0,j,h=>by omega
 | n+1,j,h=>by
  have hl:(j1 cell k n).cps.toList.length=n:=by rw[aa9];exact(vM cell k n).1
  rw[j1,CC]
  by_cases e:j=n
  ·subst e
   rw[abe (by omega),hl,Nat.sub_self]
   split<;>rfl
  ·rw[abR (by omega)]
   exact yO cell k n j (by omega)
theorem Eo{c i j:Int}(h0:0≤i)(h1:i<36)(h2:0≤j)(h3:j<36)(h:nameOf c i=nameOf c j):i=j:=by
 have b:=mod_lt c 12 (by decide)
 have b2:=mod_lt (c/12) (1+c%12) (by omega)
 have e1:=yO c i (1+c%12).toNat (c/12%(1+c%12)).toNat (by omega)
 have e2:=yO c j (1+c%12).toNat (c/12%(1+c%12)).toNat (by omega)
 have h:j1 c i (1+c%12).toNat=j1 c j (1+c%12).toNat:=h
 rw[h] at e1
 rw[e1] at e2
 rw[aas (by omega),aas (by omega)] at e2
 have:=BB (aaD e2)
 omega
def Oo(K:Qqy):Sp:=fun vs H Q _=>∃(a:Addr)(ns:List Int)(k:Int),vs=[.ref a,.int k]∧hV K H a (ns.map V.int)∧0≤k∧Q (.int (cellAt ns k)) H
theorem GJ(T:Txt mg)(O:Ok K mg A):ik P w K mg base mT 1 A.rO A.rP ["script","k"] (Oo K):=by
 refine O.jJ.f.q0 yo fun jx A outer s H vs Q E hr h=>?_
 obtain⟨a,ns,k,rfl,ha,h0,q⟩:=h
 refine⟨_,(de (iE (ip Gi (pv 1) (hZ gn (by rfl) T.jP aay (a_ (pv 0) e_)) (iN _)) (fO (h_ (Az (pv 0) (pv 1)))) ia)
   (fO (h_ f_))),?_⟩
 refine HW ?_;intro _
 refine⟨_,rfl,_,rfl,a,_,rfl,.inl ha,_,_,rfl,rfl,_,rfl,?_⟩
 refine kI (fun hc=>?_) (fun hc=>?_)
 ·have hc:k<((ns.map V.int).length:Int):=aaB hc
  obtain⟨v,e,ev⟩:=rh h0 hc
  rw[aak] at ev
  cases en:ns[k.toNat]? with
  | none=>rw[en] at ev;cases ev
  | some z=>
   rw[en] at ev
   cases ev
   unfold cellAt at q
   rw[en] at q
   exact⟨_,rfl,_,rfl,a,_,_,_,rfl,rfl,ha,e,q⟩
 ·have hc:¬k<((ns.map V.int).length:Int):=by simpa using hc
  unfold cellAt at q
  rw[RK] at hc
  rw[List.getElem?_eq_none (by omega)] at q
  exact q
def Oq:Sp:=fun vs H Q _=>∃(c k:Int),vs=[.int c,.int k]∧Q (.str (nameOf c k)) H
theorem LJ(T:Txt mg)(O:Ok K mg A):ik P w K mg base mT 1 A.xU A.xV ["cell","k"] Oq:=by
 refine O.sP.f.q0 jo fun jx A outer s H vs Q E hr h=>?_
 obtain⟨c,k,rfl,q⟩:=h
 refine⟨_,(de (kX 2 jo iV)
   (de (kX 3 jo (gm iJ f_ (gm iX (pv 0) f_)))
   (de (kX 4 jo (gm j5 (pv 0) f_))
   (de (kX 5 jo (gm q_ (gm q_ (gm iX (gm j5 (pv 0) f_) f_) (pv 1)) f_))
   (de (kX 6 jo iV)
   (de (iC aar rfl (lu rfl T.nK (a_ (pv 3) e_)) (rm 7 jo) (fO (iE (ip mD (pv 7) (gm iX (gm j5 (pv 0) f_) (pv 3)) (iN _)) (fO (kX 6 jo (gm yT (pv 6) (jO E_ (pv 2) (gm iX (gm iJ (pv 1) (pv 4)) f_) (fun _ _=>rfl))))) (fO (kX 6 jo (gm yT (pv 6) (jO E_ (pv 2) (gm iX (gm iJ (gm iJ (pv 4) (gm q_ f_ (pv 7))) (pv 5)) f_) (fun _ _=>rfl))))))))
   (fO (h_ (pv 6))))))))),?_⟩
 refine S5 ?_;intro _ _ _ _ _ _
 have b:=mod_lt c 12 (by decide)
 have b2:=mod_lt (c/5184) 2 (by decide)
 refine⟨_,rfl,_,_,rfl,rfl,(by show(0:Int)<12;decide),_,_,rfl,rfl,?_⟩
 refine⟨_,rfl,_,_,rfl,rfl,⟨by decide,by decide⟩,?_⟩
 refine⟨_,rfl,_,_,rfl,rfl,⟨by decide,by decide⟩,_,_,rfl,rfl,(by show(0:Int)<2;decide),_,rfl,_,_,rfl,rfl,.inl ⟨by omega,by omega⟩,_,_,rfl,rfl,.inr ⟨by decide,by decide⟩,?_⟩
 refine⟨_,rfl,_,rfl,by omega,by omega,?_⟩
 let Jv:=fun(j:Nat) (σ:St) (H2:Hp)=>∃v,σ=[ri c,ri k,rs l7,ri (1+c%12),ri (c/144),ri (c/5184%2*k*7),rs (j1 c k j),v]∧H2=H
 refine nN Jv ⟨none,rfl,rfl⟩ ?_ ?_
 ·rintro j σ H2 hj ⟨v,rfl,rfl⟩
  have hlen:=(vM c k j).1
  have hz:(j1 c k j).length+1≤sizeLine:=aad (m:=13) (by omega) (by decide)
  refine⟨_,rfl,_,rfl,_,_,rfl,rfl,⟨by decide,by decide⟩,_,rfl,_,_,rfl,rfl,(by show(0:Int)<1+c%12;omega),rfl,_,rfl,?_⟩
  refine kI (fun hc=>?_) (fun hc=>?_)
  ·have hc:(0:Int)+(j:Int)=c/12%(1+c%12):=V.int.inj (aaB hc)
   obtain⟨cp,e,es,_⟩:=yN (k+c/144)
   refine⟨_,rfl,_,rfl,_,rfl,_,rfl,_,_,rfl,rfl,_,_,rfl,rfl,(by show(0:Int)<36;decide),_,_,cp,rfl,rfl,by rw[CB];decide,e,_,_,rfl,rfl,hz,some (.int (0+(j:Int))),?_,rfl⟩
   rw[j1,aas (by omega),es]
   rfl
  ·have hc:¬(0:Int)+(j:Int)=c/12%(1+c%12):=fun z=>hc (XU (aa5 V.int z))
   obtain⟨cp,e,es,_⟩:=yN (c/144+5*(j:Int)+c/5184%2*k*7)
   refine⟨_,rfl,_,rfl,_,rfl,_,rfl,_,_,rfl,rfl,.inl ⟨by decide,by decide⟩,_,_,rfl,rfl,_,rfl,_,_,rfl,rfl,_,_,rfl,rfl,(by show(0:Int)<36;decide),_,_,cp,rfl,rfl,by rw[CB];decide,by rw[Int.zero_add];exact e,_,_,rfl,rfl,hz,some (.int (0+(j:Int))),?_,rfl⟩
   rw[j1,aan (by omega),es]
   rfl
 ·rintro σ H2 ⟨v,rfl,rfl⟩
  refine⟨_,rfl,?_⟩
  have:(1+c%12-0).toNat=(1+c%12).toNat:=by rw[Int.sub_zero]
  exact q
def Ot:Sp:=fun vs H Q _=>∃(c k b:Int),vs=[.int c,.int k,.int b]∧0<b∧0≤k∧k≤1000∧∀x,0≤x→x<b→Q (.int x) H
theorem LK(T:Txt mg)(O:Ok K mg A):ik P w K mg base mT 1 A.xS A.xT ["cell","k","bound"] Ot:=by
 refine O.Br.f.q0 qr fun jx A outer s H vs Q E hr h=>?_
 obtain⟨c,k,b,rfl,hb,P1,Sn,q⟩:=h
 refine⟨_,(de (kX 3 qr (gm iX (gm q_ (gm iJ (gm iJ (gm iX (pv 0) f_) (gm q_ f_ (pv 1))) f_) f_) f_))
  (de (kX 3 qr (gm iX (gm q_ (gm iJ (pv 3) (gm q_ f_ (gm iJ (pv 1) f_))) f_) f_))
  (fO (h_ (gm iX (gm j5 (pv 3) f_) (pv 2)))))),?_⟩
 refine EK ?_;intro _ _
 refine⟨_,rfl,_,_,rfl,rfl,(by show(0:Int)<2147483647;decide),_,rfl,_,_,rfl,rfl,.inl ⟨by decide,by decide⟩,_,_,rfl,rfl,_,_,rfl,rfl,_,_,rfl,rfl,.inr ⟨by decide,by decide⟩,_,_,rfl,rfl,(by show(0:Int)<2147483647;decide),?_⟩
 refine⟨_,rfl,_,rfl,_,_,rfl,rfl,_,_,rfl,rfl,.inl ⟨by decide,by decide⟩,_,_,rfl,rfl,_,_,rfl,rfl,.inr ⟨by decide,by decide⟩,_,_,rfl,rfl,(by show(0:Int)<2147483629;decide),?_⟩
 exact⟨_,rfl,_,_,rfl,rfl,⟨by decide,by decide⟩,_,rfl,_,_,rfl,rfl,hb,q _ (mod_lt _ b hb).1 (mod_lt _ b hb).2⟩
noncomputable def wR:Str:=Str.ofString " !#$&()*+,-./0123456789:;<=>?@ABCDEFGHIJKLMNOPQRSTUVWXYZ[]^_abcdefghijklmnopqrstuvwxyz{|}~"
theorem sV:wR.length=90:=by decide+kernel
def Ou:Sp:=fun vs H Q _=>∃(c:Int),vs=[.int c]∧∀x H',gg H H'→Q (.str x) H'
theorem Ep:∀(xs:List Str),(∀x∈xs,x.length=1)→(xs.map (·.length)).sum=xs.length
 | [],_=>rfl
 | x::r,h=>by
  rw[aaw,List.sum_cons,h x aav,Ep r fun y hy=>h y (aal _ hy),aae]
  omega
theorem LL(T:Txt mg)(O:Ok K mg A):ik P w K mg base mT 1 A.xW A.xX ["cell"] Ou:=by
 refine O.wM.f.q0 lT fun jx A outer s H vs Q E hr h=>?_
 obtain⟨c,rfl,q⟩:=h
 refine⟨_,(de (lE (i:=1) lT.nd rfl (Or.inr rfl) iV)
   (de (iE (ip mD (gm iX (pv 0) f_) f_ (iN _)) (fO (h_ (Az (i8 (a_ iV (a_ iV (a_ iV (a_ iV e_))))) (gm iX (gm j5 (pv 0) f_) f_)))) ia)
   (de (kX 2 lT (gm iX (gm j5 (pv 0) f_) f_))
   (de (ua (iE (ip mD (gm iX (gm j5 (pv 0) f_) f_) f_ (iN _)) (fO (kX 2 lT f_)) ia))
   (fO (h_ (oA PySem.F.plainAttrs_str PySem.F.slot_str_join PySem.F.type_str_join K0 iV (a_ (xn xy (fZ oK).names [3] rfl (lu rfl T.nK (a_ (pv 2) e_)) rfl (by decide+kernel) (fun _ _ _ _=>(iy (i:=3) lT.nd rfl (Or.inl rfl))) (fun _ _ _ _=>mU) (fun _ _ _ _=>yG (jO E_ (pv 1) (gm iX (gm iJ (gm j5 (pv 0) f_) (gm q_ f_ (pv 3))) (hZ uQ (by rfl) T.jP aay (a_ (pv 1) e_))) (fun _ _=>rfl)))) e_)))))))),?_⟩
 refine NH ?_;intro _ _ _ _
 refine⟨_,rfl,_,_,rfl,rfl,(by show(0:Int)<3;decide),rfl,_,rfl,?_⟩
 refine kI (fun _=>?_) (fun _=>?_)
 ·refine⟨jQ,fun l hl=>?_⟩
  refine⟨_,rfl,_,_,rfl,rfl,⟨by decide,by decide⟩,_,_,rfl,rfl,(by show(0:Int)<4;decide),?_⟩
  have b:=mod_lt (c/3) 4 (by decide)
  obtain⟨v,e,ev⟩:=rh (xs:=[V.str (Str.ofString "a"),V.str (Str.ofString "b"),V.str (Str.ofString ""),V.str (Str.ofString " ")]) b.1 (by simpa using b.2)
  refine⟨l,_,_,v,rfl,rfl,hV.of b_,e,?_⟩
  have hv:∃x,v=V.str x:=by
   have hm:=VI ev
   simp at hm
   rcases hm with rfl|rfl|rfl|rfl<;>exact⟨_,rfl⟩
  obtain⟨x,rfl⟩:=hv
  exact q x _ ((gg.refl H).new hl)
 ·refine⟨_,rfl,_,_,rfl,rfl,⟨by decide,by decide⟩,_,_,rfl,rfl,(by show(0:Int)<5;decide),?_⟩
  have b:=mod_lt (c/3) 5 (by decide)
  refine⟨fun σ H2=>∃(z:Int)(v:Option V),σ=[ri c,rs wR,ri z,v]∧H2=H∧0≤z∧z≤80,?_,?_⟩
  ·refine⟨_,rfl,_,_,rfl,rfl,⟨by decide,by decide⟩,_,_,rfl,rfl,(by show(0:Int)<9;decide),rfl,_,rfl,?_⟩
   refine kI (fun _=>?_) (fun _=>?_)
   ·exact⟨80,_,rfl,rfl,by decide,by decide⟩
   ·exact⟨_,_,rfl,rfl,b.1,by omega⟩
  ·rintro σ H2 ⟨z,v,rfl,rfl,z0,z1⟩
   refine⟨rfl,_,rfl,_,rfl,by omega,by omega,?_⟩
   let Jv:=fun(m:Nat) (ys:List V) (σ:St) (H3:Hp)=>∃(v:Option V)(xs:List Str),σ=[ri c,rs wR,ri z,v]∧H3=H2∧ys=gh xs∧xs.length=m∧∀x∈xs,x.length=1
   refine uS (by have:sizeLine=2 ^ 24:=rfl;omega) Jv
    ⟨none,[],rfl,rfl,rfl,rfl,fun x hx=>nomatch hx⟩ (by rintro _ _ _ _ ⟨_,xs,_,_,e,e2,_⟩;rw[e,RK];omega) ?_ ?_
   ·rintro m ys σ H3 hm ⟨v,xs,rfl,rfl,rfl,hx,h1⟩
    refine⟨_,rfl,_,rfl,_,_,rfl,rfl,⟨by decide,by decide⟩,_,rfl,_,_,rfl,rfl,.inl ⟨by decide,by decide⟩,_,_,rfl,rfl,_,rfl,_,rfl,by rw[sV];decide,_,_,rfl,rfl,(by show(0:Int)<(wR.length:Int);rw[sV];decide),?_⟩
    have b:=mod_lt (c/45+7*(0+(m:Int))) (wR.length:Int) (by rw[sV];decide)
    obtain⟨cp,e,_⟩:=rh (xs:=wR.cps.toList) b.1 (by rw[aa9];exact b.2)
    refine⟨_,_,cp,rfl,rfl,by rw[sV];decide,e,?_⟩
    refine⟨_,xs++[⟨#[cp]⟩],rfl,rfl,iK _ _,by rw[UZ,hx];rfl,fun x L7=>?_⟩
    rcases XX.mp L7 with L7|L7
    ·exact h1 x L7
    ·rw[US.mp L7];rfl
   ·rintro ys σ H3 ⟨v,xs,rfl,rfl,rfl,hx,h1⟩ p hp
    refine⟨_,p,xs,rfl,rfl,hV.of b_,?_,?_⟩
    ·rw[Ep xs h1]
     have:(Str.ofString "").length=0:=by decide+kernel
     rw[this]
     omega
    ·exact q _ _ ((gg.refl H3).new hp)
theorem vN(l:List Str)(k:Nat):rb (gh l) none (some (k:Int))=gh (l.take k):=by
 unfold rb
 rw[HT.Dm,HT.Gm,Nat.sub_zero,List.drop_zero]
 unfold gh
 rw[RK,←List.map_take]
 congr 1
 by_cases h:k≤l.length
 ·rw[Nat.min_eq_left h]
 ·rw[Nat.min_eq_right (by omega),List.take_of_length_le (U0 _),List.take_of_length_le (by omega)]
theorem Er(l:List Str)(k:Nat):rb (gh l) (some (k:Int)) none=gh (l.drop k):=by
 unfold rb
 rw[HT.Dm,HT.Gm,List.take_of_length_le (by rw[List.length_drop];exact U0 _)]
 unfold gh
 rw[RK,←List.map_drop]
 congr 1
 by_cases h:k≤l.length
 ·rw[Nat.min_eq_left h]
 ·rw[Nat.min_eq_right (by omega),List.drop_of_length_le (U0 _),List.drop_of_length_le (by omega)]
theorem wU(l:List Str){z:Int}{k:Nat}(h:z=(k:Int)):rb (gh l) (some z) none=gh (l.drop k):=by rw[h,Er]
structure FK(ts Kz:List Str):Prop where
 ne:ts≠Kz
 len:Kz.length≤ts.length+3
 near:Kz.length≤K01.lcs ts Kz+3
theorem zV{x y s:List Str}(h1:s.Sublist x)(h2:s.Sublist y):s.length≤K01.lcs x y:=(K01.j7 x y).1 s h1 h2
theorem CD{ts Kz:List Str}(h:ts.length≠Kz.length):ts≠Kz:=fun z=>h (aa5 List.length z)
theorem HF(ts:List Str)(k:Nat)(x:Str):FK ts (ts.take k++[x]++ts.drop k):=by
 have hl:(ts.take k++[x]++ts.drop k).length=ts.length+1:=by simp;omega
 have hs:ts.Sublist (ts.take k++[x]++ts.drop k):=by
  conv=>lhs;rw[←abB k ts]
  rw[aaS]
  exact(aaG _).append (aa4 _ _)
 have:=zV (aaG ts) hs
 exact⟨CD (by omega),by omega,by omega⟩
theorem JT(ts:List Str)(k:Nat)(h:k<ts.length):FK ts (ts.take k++ts.drop (k+1)):=by
 have hl:(ts.take k++ts.drop (k+1)).length=ts.length-1:=by simp;omega
 have hs:(ts.take k++ts.drop (k+1)).Sublist ts:=by
  conv=>rhs;rw[←abB k ts]
  refine(aaG _).append ?_
  rw[aaT h]
  exact abt _ _
 have:=zV hs (aaG _)
 exact⟨CD (by omega),by omega,by omega⟩
theorem FL(ts:List Str)(k:Nat)(x:Str)(h:k<ts.length)(hx:ts[k]≠x):FK ts (ts.take k++[x]++ts.drop (k+1)):=by
 have hl:(ts.take k++[x]++ts.drop (k+1)).length=ts.length:=by simp;omega
 have hs:(ts.take k++ts.drop (k+1)).Sublist ts:=by
  conv=>rhs;rw[←abB k ts]
  refine(aaG _).append ?_
  rw[aaT h]
  exact abt _ _
 have HZ:(ts.take k++ts.drop (k+1)).Sublist (ts.take k++[x]++ts.drop (k+1)):=by
  rw[aaS]
  exact(aaG _).append (aa4 _ _)
 have:=zV hs HZ
 have HK:(ts.take k++ts.drop (k+1)).length=ts.length-1:=by simp;omega
 refine⟨fun z=>hx ?_,by omega,by omega⟩
 have e:ts[k]?=(ts.take k++[x]++ts.drop (k+1))[k]?:=by rw[←z]
 rw[aaS,abe (by rw[aap];omega),aap,show k-min k ts.length=0 by omega,VN h] at e
 exact aaD e
theorem FN(ts:List Str)(k:Nat)(x y z:Str):FK ts ([x]++(ts.take k++[y]++ts.drop k)++[z]):=by
 have hl:([x]++(ts.take k++[y]++ts.drop k)++[z]).length=ts.length+3:=by simp;omega
 have hs:ts.Sublist ([x]++(ts.take k++[y]++ts.drop k)++[z]):=by
  refine List.Sublist.trans ?_ (List.sublist_append_left _ _)
  refine List.Sublist.trans ?_ (aa4 _ _)
  conv=>lhs;rw[←abB k ts]
  rw[aaS]
  exact(aaG _).append (aa4 _ _)
 have:=zV (aaG ts) hs
 exact⟨CD (by omega),by omega,by omega⟩
theorem HG(ts:List Str)(k:Nat)(x y z:Str)(h:k+1<ts.length):FK ts (ts.take k++[x,y,z]++ts.drop (k+2)):=by
 have hl:(ts.take k++[x,y,z]++ts.drop (k+2)).length=ts.length+1:=by simp;omega
 have hs:(ts.take k++ts.drop (k+2)).Sublist ts:=by
  conv=>rhs;rw[←abB k ts]
  refine(aaG _).append ?_
  exact K01.zg (by omega)
 have HZ:(ts.take k++ts.drop (k+2)).Sublist (ts.take k++[x,y,z]++ts.drop (k+2)):=by
  rw[aaS]
  exact(aaG _).append (aa4 _ _)
 have:=zV hs HZ
 have HK:(ts.take k++ts.drop (k+2)).length=ts.length-2:=by simp;omega
 exact⟨CD (by omega),by omega,by omega⟩
def Ov:Sp:=fun vs H Q _=>∃(t:Addr)(ts:List Str)(c:Int),vs=[.ref t,.int c]∧H t=some (.lst (gh ts))∧ts.length≤900∧∀p H' Kz,gg H H'→H' p=some (.lst (gh Kz))→FK ts Kz→Q (.ref p) H'
theorem LM(T:Txt mg)(O:Ok K mg A):ik P w K mg base mT 2 A.xY A.xZ ["texts","cell"] Ov:=by
 have yd:=@LL P w K mg base A T O
 refine O.Bs.f.q0 j8 fun jx A outer s H vs Q E hr h=>?_
 obtain⟨t,ts,c,rfl,ht,hl,q⟩:=h
 have sz:sizeLine=16777216:=aaC
 have et:((gh ts).length:Int)=(ts.length:Int):=by simp
 refine⟨_,(de (kX 2 j8 (gm iX (gm j5 (pv 1) f_) (gm iJ (hZ gn (by rfl) T.jP aay (a_ (pv 0) e_)) f_)))
   (de (kX 3 j8 (rl O.wM yd hr (a_ (gm j5 (pv 1) f_) e_)))
   (de (kX 4 j8 (gm l8 (gm l8 (lG oz (pv 0) nG (nH (pv 2))) (i8 (a_ (pv 3) e_))) (lG oz (pv 0) (nH (pv 2)) nG)))
   (de (kX 5 j8 (gm iX (pv 1) f_))
   (de (ua (iE ((pw_and (ip mD (pv 5) f_ (iN _)) (pw_and1 (ip Df (hZ gn (by rfl) T.jP aay (a_ (pv 0) e_)) f_ (iN _)))).pt) (de (kX 6 j8 (gm iX (pv 2) (hZ gn (by rfl) T.jP aay (a_ (pv 0) e_))))
   (fO (h_ (gm l8 (lG oz (pv 0) nG (nH (pv 6))) (lG oz (pv 0) (nH (gm iJ (pv 6) f_)) nG))))) ia))
   (de (ua (iE ((pw_and (ip mD (pv 5) f_ (iN _)) (pw_and (ip Gi (pv 2) (hZ gn (by rfl) T.jP aay (a_ (pv 0) e_)) (iN _)) (pw_and1 (ip Gh (Az (pv 0) (pv 2)) (pv 3) (iN _))))).pt) (fO (h_ (gm l8 (gm l8 (lG oz (pv 0) nG (nH (pv 2))) (i8 (a_ (pv 3) e_))) (lG oz (pv 0) (nH (gm iJ (pv 2) f_)) nG)))) ia))
   (de (ua (iE (ip mD (pv 5) f_ (iN _)) (fO (h_ (gm l8 (gm l8 (i8 (a_ (pv 3) e_)) (pv 4)) (i8 (a_ (rl O.wM yd hr (a_ (gm j5 (pv 1) f_) e_)) e_))))) ia))
   (de (ua (iE ((pw_and (ip mD (pv 5) f_ (iN _)) (pw_and1 (ip Gi (gm iJ (pv 2) f_) (hZ gn (by rfl) T.jP aay (a_ (pv 0) e_)) (iN _)))).pt) (de (kX 7 j8 (i8 (a_ (Az (pv 0) (gm iJ (pv 2) f_)) (a_ (pv 3) (a_ (Az (pv 0) (pv 2)) e_)))))
   (fO (h_ (gm l8 (gm l8 (lG oz (pv 0) nG (nH (pv 2))) (pv 7)) (lG oz (pv 0) (nH (gm iJ (pv 2) f_)) nG))))) ia))
   (fO (h_ (pv 4))))))))))),?_⟩
 refine sl9 ?_;intro _ _ _ _ _ _ _ _
 refine⟨_,rfl,_,_,rfl,rfl,⟨by decide,by decide⟩,_,rfl,t,_,rfl,.inl (hV.of ht),_,_,rfl,rfl,_,_,rfl,rfl,(by rw[et];omega),?_⟩
 rw[et]
 have b:=mod_lt (c/5) ((ts.length:Int)+1) (by omega)
 obtain⟨k,hk⟩:∃k:Nat,c/5%((ts.length:Int)+1)=(k:Int):=⟨_,(Int.toNat_of_nonneg b.1).symm⟩
 dsimp only
 rw[hk]
 have HP:k≤ts.length:=by omega
 refine⟨_,rfl,_,_,rfl,rfl,⟨by decide,by decide⟩,c/30,rfl,fun x H1 s1=>?_⟩
 have YA:=s1 _ _ ht
 refine⟨_,rfl,_,rfl,_,rfl,t,_,rfl,hV.of YA,fun a ha=>?_⟩
 rw[vN]
 have s2:=s1.new (o:=.lst (gh (ts.take k))) ha
 have Zc:(upd H1 a (.lst (gh (ts.take k)))) a=some (.lst (gh (ts.take k))):=b_
 generalize upd H1 a (.lst (gh (ts.take k)))=H2 at s2 Zc
 refine⟨_,rfl,L2.jQ,fun b0 MK=>?_⟩
 have s3:=s2.new (o:=.lst [V.str x]) MK
 refine⟨a,b0,_,_,rfl,rfl,ix MK Zc,b_,by simp;omega,fun d hd=>?_⟩
 have s4:=s3.new (o:=.lst (gh (ts.take k)++[V.str x])) hd
 have Zd:(upd (upd H2 b0 (.lst [V.str x])) d (.lst (gh (ts.take k)++[V.str x]))) d=some (.lst (gh (ts.take k++[x]))):=by rw[b_,iK]
 generalize upd (upd H2 b0 (.lst [V.str x])) d (.lst (gh (ts.take k)++[V.str x]))=H4 at s4 Zd
 refine⟨_,rfl,_,rfl,_,rfl,t,_,rfl,hV.of (s4 _ _ ht),fun e he=>?_⟩
 rw[Er]
 have s5:=s4.new (o:=.lst (gh (ts.drop k))) he
 refine⟨d,e,_,_,rfl,rfl,ix he Zd,b_,by simp;omega,fun m hm=>?_⟩
 have s6:=s5.new (o:=.lst (gh (ts.take k++[x])++gh (ts.drop k))) hm
 have WM:(upd (upd H4 e (.lst (gh (ts.drop k)))) m (.lst (gh (ts.take k++[x])++gh (ts.drop k)))) m=some (.lst (gh (ts.take k++[x]++ts.drop k))):=by rw[b_,lL]
 generalize upd (upd H4 e (.lst (gh (ts.drop k)))) m (.lst (gh (ts.take k++[x])++gh (ts.drop k)))=H6 at s6 WM
 have Ki:=s6 _ _ ht
 refine⟨_,rfl,_,_,rfl,rfl,(by show(0:Int)<5;decide),?_⟩
 refine⟨fun σ H7=>σ=[rr t,ri c,ri k,rs x,rr m,ri (c%5),none,none]∧H7=H6,?_,?_⟩
 ·refine⟨_,rfl,rfl,_,rfl,?_⟩
  refine kI (fun _=>?_) (fun _=>kA ⟨rfl,rfl⟩)
  refine⟨_,rfl,t,_,rfl,.inl (hV.of Ki),_,_,rfl,rfl,_,rfl,?_⟩
  refine kI (fun h1=>?_) (fun _=>⟨rfl,rfl⟩)
  have h1:0<ts.length:=by have:=aaB h1;rw[et] at this;omega
  refine⟨_,rfl,_,rfl,t,_,rfl,.inl (hV.of Ki),_,_,rfl,rfl,(by rw[et];omega),?_⟩
  have b2:=mod_lt (k:Int) (ts.length:Int) (by omega)
  obtain⟨o,ho⟩:∃o:Nat,(k:Int)%(ts.length:Int)=(o:Int):=⟨_,(Int.toNat_of_nonneg b2.1).symm⟩
  rw[et]
  dsimp only
  rw[ho]
  refine⟨_,rfl,_,rfl,_,rfl,t,_,rfl,hV.of Ki,fun a ha=>?_⟩
  have s7:=s6.new (o:=.lst (rb (gh ts) none (some (o:Int)))) ha
  refine⟨_,rfl,_,rfl,_,_,rfl,rfl,_,rfl,t,_,rfl,hV.of (s7 _ _ ht),fun e he=>?_⟩
  have s8:=s7.new (o:=.lst (rb (gh ts) (some ((o:Int)+1)) none)) he
  refine⟨a,e,gh (ts.take o),gh (ts.drop (o+1)),rfl,rfl,ix he (by rw[b_,vN]),by rw[b_,wU ts (k:=o+1) (by omega)],by simp;omega,fun p hp=>?_⟩
  refine q p _ _ (s8.new hp) ?_ (JT ts o (by omega))
  rw[b_,lL]
 rintro σ H7 ⟨rfl,rfl⟩
 refine⟨fun σ H8=>σ=[rr t,ri c,ri k,rs x,rr m,ri (c%5),none,none]∧H8=H7,?_,?_⟩
 ·refine⟨_,rfl,rfl,_,rfl,?_⟩
  refine kI (fun _=>?_) (fun _=>kA ⟨rfl,rfl⟩)
  refine⟨_,rfl,_,rfl,t,_,rfl,.inl (hV.of Ki),_,_,rfl,rfl,_,rfl,?_⟩
  refine kI (fun h1=>?_) (fun _=>kA ⟨rfl,rfl⟩)
  have h1:k<ts.length:=by have:=aaB h1;rw[et] at this;omega
  have hx:ts[k]?=some ts[k]:=VN h1
  refine⟨_,rfl,_,rfl,t,_,_,_,rfl,rfl,hV.of Ki,iF rfl (oF hx),_,rfl,rfl,_,rfl,?_⟩
  refine kI (fun h2=>?_) (fun _=>⟨rfl,rfl⟩)
  have h2:ts[k]≠x:=fun z=>by rw[z] at h2;simp at h2
  refine⟨_,rfl,_,rfl,_,rfl,t,_,rfl,hV.of Ki,fun a ha=>?_⟩
  have s7:=s6.new (o:=.lst (rb (gh ts) none (some (k:Int)))) ha
  rw[vN] at s7 ⊢
  refine⟨_,rfl,L2.jQ,fun b0 MK=>?_⟩
  have s8:=s7.new (o:=.lst [V.str x]) MK
  refine⟨a,b0,_,_,rfl,rfl,ix MK b_,b_,by simp;omega,fun d hd=>?_⟩
  have s9:=s8.new (o:=.lst (gh (ts.take k)++[V.str x])) hd
  refine⟨_,rfl,_,rfl,_,_,rfl,rfl,_,rfl,t,_,rfl,hV.of (s9 _ _ ht),fun e he=>?_⟩
  have L4:=s9.new (o:=.lst (rb (gh ts) (some ((k:Int)+1)) none)) he
  refine⟨d,e,_,gh (ts.drop (k+1)),rfl,rfl,ix he b_,by rw[b_,wU ts (k:=k+1) (by omega)],by simp;omega,fun p hp=>?_⟩
  refine q p _ _ (L4.new hp) ?_ (FL ts k x h1 h2)
  rw[b_,iK,lL]
 rintro σ H8 ⟨rfl,rfl⟩
 refine⟨fun σ H9=>σ=[rr t,ri c,ri k,rs x,rr m,ri (c%5),none,none]∧H9=H8,?_,?_⟩
 ·refine⟨_,rfl,rfl,_,rfl,?_⟩
  refine kI (fun _=>?_) (fun _=>⟨rfl,rfl⟩)
  refine⟨_,rfl,L2.jQ,fun a ha=>?_⟩
  have s7:=s6.new (o:=.lst [V.str x]) ha
  refine⟨_,rfl,a,m,_,_,rfl,rfl,b_,ix ha WM,by simp;omega,fun b0 MK=>?_⟩
  have s8:=s7.new (o:=.lst ([V.str x]++gh (ts.take k++[x]++ts.drop k))) MK
  refine⟨_,rfl,_,_,rfl,rfl,⟨by decide,by decide⟩,c/60,rfl,fun y H9 s9=>⟨L2.jQ,fun d hd=>?_⟩⟩
  have L4:=(s8.trans s9).new (o:=.lst [V.str y]) hd
  refine⟨b0,d,_,_,rfl,rfl,ix hd (s9 _ _ b_),b_,by simp;omega,fun p hp=>?_⟩
  refine q p _ _ (L4.new hp) ?_ (FN ts k x x y)
  rw[b_]
  simp[gh]
 rintro σ H9 ⟨rfl,rfl⟩
 refine⟨fun σ EB=>σ=[rr t,ri c,ri k,rs x,rr m,ri (c%5),none,none]∧EB=H9,?_,?_⟩
 ·refine⟨_,rfl,rfl,_,rfl,?_⟩
  refine kI (fun _=>?_) (fun _=>kA ⟨rfl,rfl⟩)
  refine⟨_,rfl,_,_,rfl,rfl,_,rfl,t,_,rfl,.inl (hV.of Ki),_,_,rfl,rfl,_,rfl,?_⟩
  refine kI (fun h1=>?_) (fun _=>⟨rfl,rfl⟩)
  have h1:k+1<ts.length:=by have:=aaB h1;rw[et] at this;omega
  have hx:ts[k]?=some ts[k]:=VN (by omega)
  have hy:ts[k+1]?=some ts[k+1]:=VN h1
  refine⟨_,rfl,_,rfl,_,_,rfl,rfl,t,_,_,_,rfl,rfl,hV.of Ki,iF (j:=k+1) (by omega) (oF hy),_,rfl,_,rfl,_,rfl,t,_,_,_,rfl,rfl,hV.of Ki,iF rfl (oF hx),L2.jQ,fun u hu=>?_⟩
  have s7:=s6.new (o:=.lst [V.str ts[k+1],V.str x,V.str ts[k]]) hu
  have Ze:(upd H9 u (.lst [V.str ts[k+1],V.str x,V.str ts[k]])) u=some (.lst (gh [ts[k+1],x,ts[k]])):=b_
  generalize upd H9 u (.lst [V.str ts[k+1],V.str x,V.str ts[k]])=WN at s7 Ze
  refine⟨_,rfl,_,rfl,_,rfl,t,_,rfl,hV.of (s7 _ _ ht),fun a ha=>?_⟩
  rw[vN]
  have s8:=s7.new (o:=.lst (gh (ts.take k))) ha
  refine⟨_,rfl,a,u,_,_,rfl,rfl,b_,ix ha Ze,by simp;omega,fun d hd=>?_⟩
  have s9:=s8.new (o:=.lst (gh (ts.take k)++gh [ts[k+1],x,ts[k]])) hd
  refine⟨_,rfl,_,rfl,_,_,rfl,rfl,_,rfl,t,_,rfl,hV.of (s9 _ _ ht),fun e he=>?_⟩
  have L4:=s9.new (o:=.lst (rb (gh ts) (some ((k:Int)+2)) none)) he
  refine⟨d,e,_,gh (ts.drop (k+2)),rfl,rfl,ix he b_,by rw[b_,wU ts (k:=k+2) (by omega)],by simp;omega,fun p hp=>?_⟩
  refine q p _ _ (L4.new hp) ?_ (HG ts k ts[k+1] x ts[k] h1)
  rw[b_,lL,lL]
 rintro σ EB ⟨rfl,rfl⟩
 exact⟨_,rfl,q m _ _ s6 WM (HF ts k x)⟩
structure Sz(k:Nat)(D:Dk):Prop where
 many:D.made.length≤k
 ig:(D.made.flatMap (·.ig)).length≤3*k
 i4:(D.made.flatMap (·.i4)).length≤3*(k*k)
theorem GK(k:Nat):(k+1)*(k+1)=k*k+2*k+1:=by simp only [Nat.mul_add,Nat.add_mul];omega
theorem Sz.up{k:Nat}{D:Dk}(z:Sz k D):Sz (k+1) D:=⟨Nat.le_succ_of_le z.many,by have:=z.ig;omega,by have:=z.i4;have:=GK k;omega⟩
theorem Sz.keep{k:Nat}{D:Dk}(z:Sz k D)(s:Str){p:Pt}(hp:p.ig.length≤3)(hc:p.i4.length≤3*k+3):Sz (k+1) (D.keep s p):=by
 refine⟨?_,?_,?_⟩
 ·show(D.made++[p]).length≤_
  rw[UZ];have:=z.many;show _+1≤_;omega
 ·show((D.made++[p]).flatMap (·.ig)).length≤_
  rw[aa1,UZ,aaA,abr,aaN];have:=z.ig;omega
 ·show((D.made++[p]).flatMap (·.i4)).length≤_
  rw[aa1,UZ,aaA,abr,aaN];have:=z.i4;have:=GK k;omega
theorem Sz.small{k:Nat}{D:Dk}(z:Sz k D)(h:k≤36):Small D.made:=by
 have h2:k*k≤36*36:=Nat.mul_le_mul h h
 exact⟨aad z.many (by omega),aad z.ig (by omega),aad z.i4 (by omega)⟩
theorem Sz.row{k:Nat}{D:Dk}(z:Sz k D)(I:Inv D)(s f:Str):(D.row s f).length≤3*k:=aad (I.uY s f) z.ig
theorem um(D:Dk)(s:Str)(p:Pt):(D.keep s p).names=D.names++[p.nm]:=by
 show(D.made++[p]).map (·.nm)=_
 rw[aau];rfl
theorem HH{x f:Str}{row:List Ln}{texts:List Str}(e:FK (row.map (·.tx)) texts):(mI x f row texts).ig.length≤3:=by
 have rise:=sM (row.map (·.tx)) texts
 rw[RK] at rise
 have h:=Gw rise x
 rw[K01.xq] at h
 have:=e.near
 show(kC x texts _).length≤3
 omega
theorem pick{xs:List Str}{i:Int}(h0:0≤i)(h:i<(xs.length:Int)):∃x,E9 (gh xs) i=some (V.str x)∧x∈xs:=by
 obtain⟨v,e,ev⟩:=rh (xs:=gh xs) h0 (by simpa using h)
 obtain⟨x,hx,rfl⟩:=jR ev
 exact⟨x,e,VI hx⟩
def Ow(A:Ad):Sp:=fun vs H Q _=>∃(d ss fs:Addr)(D:Dk)(W:Addr→Prop)(k:Nat)(stores files:List Str)(c:Int)(x:Str)(b:Bool),vs=[.ref d,.ref ss,.ref fs,.int c,.str x,.bl b]∧iw A H d D W∧Inv D∧Sz k D∧k<36∧
 H ss=some (.lst (gh stores))∧stores≠[]∧stores.length≤1000∧(∀s∈stores,s∈D.stores∧ki s)∧H fs=some (.lst (gh files))∧files≠[]∧files.length≤1000∧(∀f∈files,Good f)∧Good x∧x∉D.names∧(∀z∈D.names,ki z)∧
 ∀H' D',iw A H' d D' W→qW W H H'→Inv D'→Sz (k+1) D'→D'.stores=D.stores→(D'.names=D.names∨D'.names=D.names++[x])→Q .jn H'
theorem LN(T:Txt mg)(O:Ok K mg A):ik P w K mg base mT 7 A.x5 A.x8 ["desk","stores","files","cell","name","backs"] (Ow A):=by
 have FY:=(@Og P w K mg base A T O).HX
 have jN:=(@FG P w K mg base A T O).HX
 have EC:=(@LI P w K mg base A T O).HX
 have ED:=(@LH P w K mg base A T O).HX
 have EE:=(@LG P w K mg base A T O).HX
 have yy:=(@En P w K mg base A T O).HX
 have AY:=(@HE P w K mg base A T O).HX
 have FZ:=(@Om P w K mg base A T O).HX
 have EF:=@LM P w K mg base A T O
 refine O.Bt.f.q0 jq fun jx A0 outer s H vs Q E hr h=>?_
 obtain⟨d,ss,fs,D,W,k,stores,files,c,x,bk,rfl,X,I,z,hk,Pa,hs0,J4,yt,zZ,T1,hfl,hfg,gx,hx,JX,q⟩:=h
 obtain⟨π,y⟩:=id X
 have sz:sizeLine=16777216:=aaC
 have sm:=z.small (by omega)
 have jQ:wN D.made.length:=sm.many
 have yw:D.made.length≤4000:=jQ
 have es:((gh stores).length:Int)=(stores.length:Int):=by simp
 have ef:((gh files).length:Int)=(files.length:Int):=by simp
 have VC:0<stores.length:=List.length_pos_iff.mpr hs0
 have hf1:0<files.length:=List.length_pos_iff.mpr T1
 refine⟨_,(de (kX 6 jq (Az (pv 1) (gm iX (pv 3) (hZ gn (by rfl) T.jP aay (a_ (pv 1) e_)))))
   (de (kX 7 jq (Az (pv 2) (gm iX (gm j5 (pv 3) f_) (hZ gn (by rfl) T.jP aay (a_ (pv 2) e_)))))
   (de (kX 8 jq (gm iX (gm j5 (pv 3) f_) f_))
   (de (kX 9 jq (gm j5 (pv 3) f_))
   (de (Bf (j:=10) xA (fZ oM).names [13] jq.nd rfl rfl rfl (ie (Ax (pv 0) O.gw O.D8 FY hr (a_ (pv 6) (a_ (pv 7) e_)))) rfl (by decide+kernel) (fun _ _ _ _=>(iy (i:=13) jq.nd rfl (Or.inl rfl))) (fun _ _ _ _=>mU) (fun _ _ _ _=>yG (jO mR (pv 13) f_ (fun _ _=>rfl))))
   (fO (iE (Jj ((pw_and (ip mD (pv 8) f_ (iN _)) (pw_and (vU (pv 5)) (pw_and1 (ip Df (hZ gn (by rfl) T.jP aay (a_ (Ax (pv 0) O.gw O.lX jN hr (a_ (pv 6) e_)) e_)) f_ (iN _))))).pt)) (fO (hG (Ax (pv 0) O.gw O.Bo EC hr (a_ (pv 6) (a_ (pv 4) (a_ (Az (Ax (pv 0) O.gw O.lX jN hr (a_ (pv 6) e_)) (gm iX (pv 9) (hZ gn (by rfl) T.jP aay (a_ (Ax (pv 0) O.gw O.lX jN hr (a_ (pv 6) e_)) e_)))) e_)))))) (fO (iE (Jj ((pw_and (ip mD (pv 8) f_ (iN _)) (pw_and (ip mD (gm iX (pv 9) f_) f_ (iN _)) (pw_and1 (ip Df (hZ gn (by rfl) T.jP aay (a_ (Ax (pv 0) O.gw O.lX jN hr (a_ (pv 6) e_)) e_)) f_ (iN _))))).pt)) (fO (hG (Ax (pv 0) O.gw O.Bq ED hr (a_ (pv 6) (a_ (Az (Ax (pv 0) O.gw O.lX jN hr (a_ (pv 6) e_)) (xf ra f_)) e_))))) (fO (iE (ip Df (pv 8) f_ (iN _)) (de (kX 11 jq (Az (pv 1) (gm iX (pv 9) (hZ gn (by rfl) T.jP aay (a_ (pv 1) e_)))))
   (de (kX 12 jq (Ax (pv 0) O.gw O.lX jN hr (a_ (pv 11) e_)))
   (fO (iE (ip Df (hZ gn (by rfl) T.jP aay (a_ (pv 12) e_)) f_ (iN _)) (fO (hG (Ax (pv 0) O.gw O.Bp EE hr (a_ (pv 6) (a_ (pv 11) (a_ (Az (pv 12) (gm iX (gm j5 (pv 9) f_) (hZ gn (by rfl) T.jP aay (a_ (pv 12) e_)))) e_)))))) ia)))) (fO (iE (ip mD (hZ gn (by rfl) T.jP aay (a_ (Ax (pv 0) O.gw O.tP yy hr (a_ (pv 6) (a_ (pv 7) e_))) e_)) f_ (iN _)) (fO (hG (Ax (pv 0) O.gw O.yb AY hr (a_ (pv 6) (a_ (pv 4) (a_ (pv 7) (a_ (rl O.Bs EF hr (a_ (pv 10) (a_ (pv 9) e_))) e_))))))) (fO (hG (Ax (pv 0) O.gw O.D7 FZ hr (a_ (pv 6) (a_ (pv 4) (a_ (pv 7) (a_ (i8 (a_ (gm iX (pv 9) (hZ gn (by rfl) T.jP aay (a_ (pv 10) e_))) e_)) e_)))))))))))))))))))),?_⟩
 refine Qy ?_;intro _ _ _ _ _
 have b1:=mod_lt c (stores.length:Int) (by omega)
 obtain⟨st,WO,L1⟩:=pick (xs:=stores) b1.1 b1.2
 have b2:=mod_lt (c/7) (files.length:Int) (by omega)
 obtain⟨f,WQ,hf2⟩:=pick (xs:=files) b2.1 b2.2
 obtain⟨CK,Ib⟩:=yt st L1
 have gf:=hfg f hf2
 refine⟨_,rfl,_,rfl,_,rfl,ss,_,rfl,.inl (hV.of Pa),_,_,rfl,rfl,(by rw[es];omega),ss,_,_,_,rfl,rfl,hV.of Pa,(by rw[es];exact WO),?_⟩
 refine⟨_,rfl,_,rfl,_,_,rfl,rfl,⟨by decide,by decide⟩,_,rfl,fs,_,rfl,.inl (hV.of zZ),_,_,rfl,rfl,(by rw[ef];omega),fs,_,_,_,rfl,rfl,hV.of zZ,(by rw[ef];exact WQ),?_⟩
 refine⟨_,rfl,_,_,rfl,rfl,⟨by decide,by decide⟩,_,_,rfl,rfl,(by show(0:Int)<6;decide),?_⟩
 refine⟨_,rfl,_,_,rfl,rfl,⟨by decide,by decide⟩,?_⟩
 refine⟨_,rfl,d,π.dx,_,rfl,y.hd,Oa,_,rfl,_,rfl,d,D,W,st,f,rfl,X,Ib,sm,I,fun h=>absurd CK h,fun _ r H1 s1 qB ⟨vs,EA,EO⟩=>?_⟩
 have EM:=z.row I st f
 have hvl:=aao EO
 let Jv:=fun(i:Nat) (ys:List V) (σ:St) (H4:Hp)=>∃(WR:Option V),σ=[rr d,rr ss,rr fs,ri c,rs x,some (.bl bk),rs st,rs f,ri (c/11%6),ri (c/66),none,none,none,WR]∧H4=H1∧ys=gh (((D.row st f).take i).map (·.tx))
 refine⟨r,rfl,⟨_,hV.of EA⟩,jE (K:=K) (a:=r) (xs:=vs) (by omega) Jv
  ⟨none,rfl,rfl,rfl⟩ (by rintro _ _ _ _ _ ⟨_,_,e,e2⟩;rw[e,e2];exact⟨hV.of EA,by rw[RK,RK,aap];omega⟩) ?_ ?_⟩
 ·rintro i v ys σ H4 hx ⟨WR,rfl,rfl,rfl⟩
  obtain⟨ln,yv,t,rfl,ht⟩:=ir EO hx
  refine⟨_,rfl,t,_,_,_,rfl,rfl,pk.of ht,iF (j:=2) rfl rfl,_,rfl,rfl,?_⟩
  rw[take_snoc yv,aau,iK]
  rfl
 rintro ys σ H4 ⟨WR,rfl,rfl,rfl⟩ Sy R3
 rw[hvl,aaf]
 have s2:=s1.new (o:=.lst (gh ((D.row st f).map (·.tx)))) R3
 have SA:(upd H4 Sy (.lst (gh ((D.row st f).map (·.tx))))) Sy=some (.lst (gh ((D.row st f).map (·.tx)))):=b_
 generalize upd H4 Sy (.lst (gh ((D.row st f).map (·.tx))))=H2 at s2 SA
 have X2:=X.same s2
 have Kj:(((D.row st f).map (·.tx)).length:Int)=((D.row st f).length:Int):=by rw[RK]
 have el:∀l:List Str,((gh l).length:Int)=(l.length:Int):=fun l=>by simp
 have hasB:∀u,(D.has u).length≤D.made.length:=fun u=>by
  rw[Dk.Gx,RK];exact aaI _ _
 have Pb:∀u,∀v∈D.has u,v∈D.held u∧v∈D.names:=fun u v hv=>by
  obtain⟨h1,h2⟩:=aaq.mp hv
  exact⟨aaB h2,h1⟩
 refine⟨fun b H3=>gg H2 H3∧(b=true→D.has st≠[]),?_,?_⟩
 ·refine⟨_,rfl,rfl,_,rfl,?_⟩
  refine kI (fun _=>?_) (fun _=>⟨gg.refl _,fun z=>by cases z⟩)
  refine⟨_,rfl,_,rfl,?_⟩
  refine kI (fun _=>?_) (fun _=>⟨gg.refl _,fun z=>by cases z⟩)
  refine⟨_,rfl,d,π.dx,_,rfl,s2 _ _ y.hd,sv,_,rfl,d,D,W,st,rfl,X2,Ib,jQ,fun h=>absurd CK h,fun _ p sA=>?_⟩
  refine⟨p,_,rfl,.inl (hV.of b_),_,_,rfl,rfl,_,rfl,(gg.refl H2).new sA,fun h e=>?_⟩
  rw[e] at h
  exact absurd (aaB h) (by decide)
 rintro b H3 ⟨SD,hb⟩
 have s3:=s2.trans SD
 have X3:=X.same s3
 cases b with
 | true=>
  have qA:=hb rfl
  have RB:0<(D.has st).length:=List.length_pos_iff.mpr qA
  refine mG ?_
  refine⟨_,rfl,d,π.dx,_,rfl,s3 _ _ y.hd,Lx,_,rfl,_,rfl,_,rfl,d,π.dx,_,rfl,s3 _ _ y.hd,sv,_,rfl,d,D,W,st,rfl,X3,Ib,jQ,fun h=>absurd CK h,fun _ p sA=>?_⟩
  have s4:=s3.new (o:=.lst (gh (D.has st))) sA
  refine⟨_,rfl,_,rfl,d,π.dx,_,rfl,s4 _ _ y.hd,sv,_,rfl,d,D,W,st,rfl,X.same s4,Ib,jQ,fun h=>absurd CK h,fun _ p2 AA=>?_⟩
  have s5:=s4.new (o:=.lst (gh (D.has st))) AA
  have b3:=mod_lt (c/66) ((D.has st).length:Int) (by omega)
  obtain⟨o,eo,ho⟩:=pick (xs:=D.has st) b3.1 b3.2
  obtain⟨T3,T4⟩:=Pb st o ho
  refine⟨p2,_,rfl,.inl (hV.of b_),_,_,rfl,rfl,(by rw[el];omega),p,_,_,_,rfl,rfl,hV.of (ix AA b_),(by rw[el];exact eo),?_⟩
  refine⟨d,D,W,st,x,o,rfl,X.same s5,I,jQ,Ib,gx.AS,JX o T4,fun h=>absurd CK h,fun _ h=>absurd gx h,fun _ _ h=>absurd h hx,fun _ _ _ h=>absurd T3 h,fun _ _ _ _ H' X' s'=>?_⟩
  exact q H' _ X' (fun b o e n=>s' b o (s5 _ _ e) n) (I.back CK hx T3) (z.keep st (aaK _) (aaK _)) rfl (.inr (um D st _))
 | false=>
 refine kA ?_
 refine⟨fun b H4=>gg H3 H4∧(b=true→D.has st≠[]),?_,?_⟩
 ·refine⟨_,rfl,rfl,_,rfl,?_⟩
  refine kI (fun _=>?_) (fun _=>⟨gg.refl _,fun z=>by cases z⟩)
  refine⟨_,rfl,_,_,rfl,rfl,(by show(0:Int)<4;decide),rfl,_,rfl,?_⟩
  refine kI (fun _=>?_) (fun _=>⟨gg.refl _,fun z=>by cases z⟩)
  refine⟨_,rfl,d,π.dx,_,rfl,s3 _ _ y.hd,sv,_,rfl,d,D,W,st,rfl,X3,Ib,jQ,fun h=>absurd CK h,fun _ p sA=>?_⟩
  refine⟨p,_,rfl,.inl (hV.of b_),_,_,rfl,rfl,_,rfl,(gg.refl H3).new sA,fun h e=>?_⟩
  rw[e] at h
  exact absurd (aaB h) (by decide)
 rintro b H4 ⟨O_,hb⟩
 have s4:=s3.trans O_
 have X4:=X.same s4
 cases b with
 | true=>
  have qA:=hb rfl
  obtain⟨zs,la,T5⟩:∃zs la,D.has st=zs++[la]:=⟨_,_,(List.dropLast_concat_getLast qA).symm⟩
  have Tx:=Pb st la (by rw[T5];simp)
  refine mG ?_
  refine⟨_,rfl,d,π.dx,_,rfl,s4 _ _ y.hd,Lz,_,rfl,_,rfl,d,π.dx,_,rfl,s4 _ _ y.hd,sv,_,rfl,d,D,W,st,rfl,X4,Ib,jQ,fun h=>absurd CK h,fun _ p sA=>?_⟩
  have s5:=s4.new (o:=.lst (gh (D.has st))) sA
  have PJ:E9 (gh (D.has st)) (-1)=some (V.str la):=by rw[T5,←iK];exact Dq _ _
  refine⟨_,rfl,p,_,_,_,rfl,rfl,hV.of b_,PJ,?_⟩
  refine⟨d,D,W,st,la,rfl,X.same s5,I,jQ,Ib,JX la Tx.2,JX,fun h=>absurd CK h,fun _ h=>absurd Tx.1 h,fun _ _ h=>absurd (I.Bk CK T5) h,fun _ _ _ H' X' s'=>?_⟩
  exact q H' _ X' (fun b o e n=>s' b o (s5 _ _ e) n) (I.drop CK (I.Bk CK T5)) ⟨z.up.many,z.up.ig,z.up.i4⟩ rfl (.inl rfl)
 | false=>
 refine kA ?_
 refine⟨_,rfl,_,_,rfl,rfl,_,rfl,?_⟩
 refine kI (fun _=>?_) (fun _=>?_)
 ·have b3:=mod_lt (c/66) (stores.length:Int) (by omega)
  obtain⟨so,HN,WS⟩:=pick (xs:=stores) b3.1 b3.2
  obtain⟨HS,SE⟩:=yt so WS
  refine⟨_,rfl,_,rfl,_,rfl,ss,_,rfl,.inl (hV.of (s4 _ _ Pa)),_,_,rfl,rfl,(by rw[es];omega),ss,_,_,_,rfl,rfl,hV.of (s4 _ _ Pa),(by rw[es];exact HN),?_⟩
  refine⟨_,rfl,d,π.dx,_,rfl,s4 _ _ y.hd,sv,_,rfl,d,D,W,so,rfl,X4,SE,jQ,fun h=>absurd HS h,fun _ p sA=>?_⟩
  have s5:=s4.new (o:=.lst (gh (D.has so))) sA
  refine⟨_,rfl,p,_,rfl,.inl (hV.of b_),_,_,rfl,rfl,_,rfl,?_⟩
  refine kI (fun h=>?_) (fun _=>?_)
  ·have h:0<(D.has so).length:=by have:=aaB h;rw[el] at this;omega
   have b4:=mod_lt (c/66/5) ((D.has so).length:Int) (by omega)
   obtain⟨o,eo,ho⟩:=pick (xs:=D.has so) b4.1 b4.2
   obtain⟨T3,T4⟩:=Pb so o ho
   refine⟨_,rfl,d,π.dx,_,rfl,s5 _ _ y.hd,Ly,_,rfl,_,rfl,_,rfl,_,rfl,_,_,rfl,rfl,⟨by decide,by decide⟩,_,rfl,p,_,rfl,.inl (hV.of b_),_,_,rfl,rfl,(by rw[el];omega),p,_,_,_,rfl,rfl,hV.of b_,(by rw[el];exact eo),?_⟩
   refine⟨d,D,W,st,so,o,rfl,X.same s5,I,jQ,Ib,SE,JX o T4,fun h=>absurd CK h,fun _ h=>absurd HS h,fun _ _ h=>absurd T3 h,fun _ _ _ cm H6 H' s6 MA _ X' s'=>?_⟩
   exact q H' _ X' (fun b o e n=>s' b o (by rw[d_ (gb (s6 _ _ (s5 _ _ e)) MA)];exact s6 _ _ (s5 _ _ e)) n) (I.take CK T4) ⟨z.up.many,z.up.ig,z.up.i4⟩ rfl (.inl rfl)
  ·exact q _ D (X.same s5) (qW.of s5) I z.up rfl (.inl rfl)
 refine⟨_,rfl,d,π.dx,_,rfl,s4 _ _ y.hd,Em,_,rfl,_,rfl,d,D,W,st,f,rfl,X4,Ib,sm,I,fun h=>absurd CK h,fun _ p H5 qs L6 sA MC AA=>?_⟩
 have s5:=s4.trans L6
 have MH:=aao AA
 have SF:=L6 _ _ (O_ _ _ (SD _ _ SA))
 refine⟨p,_,rfl,.inl (hV.of MC),rfl,_,rfl,?_⟩
 refine kI (fun h=>?_) (fun h=>?_)
 ·have hq:D.DQ st f=[]:=by
   have:=V.int.inj (aaB h)
   rw[←MH] at this
   exact aaO.mp (by omega)
  refine⟨_,rfl,d,π.dx,_,rfl,s5 _ _ y.hd,Hy,_,rfl,_,rfl,_,rfl,_,rfl,_,rfl,Sy,(D.row st f).map (·.tx),c/66,rfl,SF,by rw[RK];omega,fun t H6 ts Wn Ki ed=>?_⟩
  have s6:=s5.trans Wn
  have RF:=ed.len
  rw[RK] at RF
  refine⟨d,t,D,W,st,x,f,ts,rfl,X.same s6,I,sm,aad z.ig (by omega),Ib,gx.AS,gf.AS,Ki,by omega,fun h=>absurd CK h,fun _ h=>absurd ⟨gx,gf⟩ h,fun _ _ _ h=>absurd h hx,fun _ _ _ _ h=>absurd hq h,fun _ _ _ _ _ h=>absurd h ed.ne,fun _ _ _ _ _ _ H' X' s'=>?_⟩
  refine q H' _ X' (fun b o e n=>s' b o (s6 _ _ e) n) (I.record CK hx hq ts) (z.keep st (HH ed) (aad vL.2 (by omega))) rfl (.inr (um D st _))
 ·have hq:D.DQ st f≠[]:=fun e=>h (by rw[←MH,e];rfl)
  have hrpos:0<(D.row st f).length:=by
   rcases Nat.eq_zero_or_pos (D.row st f).length with e|e
   ·exfalso
    apply hq
    show kY _ (D.row st f)=[]
    rw[aaO.mp e]
    rfl
   ·exact e
  have b3:=mod_lt (c/66) ((D.row st f).length:Int) (by omega)
  refine⟨_,rfl,d,π.dx,_,rfl,s5 _ _ y.hd,Ob,_,rfl,_,rfl,_,rfl,_,rfl,_,rfl,Sy,_,rfl,.inl (hV.of SF),_,_,rfl,rfl,(by rw[el,Kj];omega),L2.jQ,fun t ht=>?_⟩
  have s6:=s5.new (o:=.lst [V.int (c/66%((gh ((D.row st f).map (·.tx))).length:Int))]) ht
  refine⟨d,t,D,W,st,x,f,[c/66%((gh ((D.row st f).map (·.tx))).length:Int)],rfl,X.same s6,I,sm,Ib,gx.AS,gf.AS,b_,by show 1≤1000;decide,fun p hp=>?_,fun h=>absurd CK h,fun _ h=>absurd ⟨gx,gf⟩ h,fun _ _ _ h=>absurd h hx,fun _ _ _ _ h=>absurd ?_ h,(fun _ _ _ _ h=>by cases h),fun _ _ _ _ ok _ H' X' s'=>?_⟩
  ·rw[US.mp hp,el,Kj]
   refine abn (m:=108) ?_ (by decide)
   exact aad (Nat.log2_le_self _) (by omega)
  ·rw[el,Kj]
   exact⟨⟨b3.1,b3.2⟩,trivial⟩
  ·refine q H' _ X' (fun b o e n=>s' b o (s6 _ _ e) n) (I.cut CK hx fun m hm=>?_) (z.keep st (aaK _) (aad (List.length_filterMap_le _ _) (by show 1≤_;omega))) rfl (.inr (um D st _))
   obtain⟨pl,_,o3⟩:=ab4.mp hm
   obtain⟨l',LY,rfl⟩:=aaF.mp o3
   exact aaa (VI LY)
theorem qz{K:Qqy}{H H':Hp}{a:Addr}{xs:List V}(h:hV K H a xs)(s:gg H H'):hV K H' a xs:=by
 rcases h with(h|⟨u,h⟩)|h
 ·exact .inl (.inl (s _ _ h))
 ·exact .inl (.inr ⟨u,s _ _ h⟩)
 ·exact .inr h
noncomputable abbrev EL(ns:List Int)(i:Int):Int:=cellAt ns i%20736
noncomputable def vV(ns:List Int):List Str:=[nameOf (EL ns 0) 0,nameOf (EL ns 0) 1,nameOf (EL ns 0) 2]
noncomputable def yF(ns:List Int):List Str:=[nameOf (EL ns 1) 0,nameOf (EL ns 1) 1]
theorem HI(ns:List Int):(vV ns).Nodup:=by
 have h:∀i j:Int,0≤i→i<36→0≤j→j<36→i≠j→nameOf (EL ns 0) i≠nameOf (EL ns 0) j:=fun i j a b c d e z=>e (Eo a b c d z)
 unfold vV
 simp only [aaX,XW,abE,or_false,not_or,abb,and_true]
 exact⟨⟨h 0 1 (by decide) (by decide) (by decide) (by decide) (by decide),h 0 2 (by decide) (by decide) (by decide) (by decide) (by decide)⟩,h 1 2 (by decide) (by decide) (by decide) (by decide) (by decide),by simp⟩
theorem zW{ns:List Int}:∀s∈vV ns,Good s:=by
 intro s hs
 unfold vV at hs
 simp only [XW,abE,or_false] at hs
 rcases hs with rfl|rfl|rfl<;>exact nP _ _
theorem JU{ns:List Int}:∀s∈yF ns,Good s:=by
 intro s hs
 unfold yF at hs
 simp only [XW,abE,or_false] at hs
 rcases hs with rfl|rfl<;>exact nP _ _
structure Built(A:Ad)(ns:List Int)(n:Nat)(H H':Hp)(b d ss fs:Addr)(D:Dk)(W:Addr→Prop):Prop where
 same:gg H H'
 fresh:H b=none
 at_:H' b=some (.lst [.ref d,.ref ss,.ref fs])
 st:H' ss=some (.lst (gh (vV ns)))
 fl:H' fs=some (.lst (gh (yF ns)))
 Va:iw A H' d D W
 own:∀x,W x→H x=none
 inv:Inv D
 sz:Sz n D
 stores:D.stores=vV ns
 names:∀x∈D.names,∃j:Nat,j<n∧x=nameOf (EL ns 3) j
def Ox(K:PySem.W.Frag)(A:Ad):Sp:=fun vs H Q _=>∃(a:Addr)(ns:List Int)(first:Int)(n:Nat)(bk:Bool),vs=[.ref a,.int first,.int n,.bl bk]∧hV K H a (ns.map V.int)∧ns.length≤1000∧0≤first∧first≤1000∧n≤35∧∀b d ss fs D W H',Built A ns n H H' b d ss fs D W→Q (.ref b) H'
theorem LO(T:Txt mg)(O:Ok K mg A):ik P w K mg base mT 8 A.x9 A.x_ ["script","first","most","backs"] (Ox K A):=by
 have yz:=@Cv P w K mg base A T O
 have CL:=(@JP P w K mg base A T O).HX
 have sC:=@LJ P w K mg base A T O
 have jh:=@GJ P w K mg base A T O
 have EG:=@LK P w K mg base A T O
 have EH:=@LN P w K mg base A T O
 refine O.Bu.f.q0 jd fun jx A0 outer s H vs Q E hr h=>?_
 obtain⟨a,ns,first,n,bk,rfl,ha,MG,T1,hf1,hn,q⟩:=h
 have sz:sizeLine=16777216:=aaC
 refine⟨_,(de (kX 4 jd (Ir O.NX yz (hr.mono (by decide)) rfl O.NY O.tO.b .nil oC))
   (de (Bf (j:=5) rG (fZ mJ).names [8] jd.nd rfl rfl rfl (lu rfl T.nK (a_ f_ e_)) rfl (by decide+kernel) (fun _ _ _ _=>(iy (i:=8) jd.nd rfl (Or.inl rfl))) (fun _ _ _ _=>mU) (fun _ _ _ _=>yG (rl O.sP sC hr (a_ (gm iX (rl O.jJ jh hr (a_ (pv 0) (a_ f_ e_))) f_) (a_ (pv 8) e_)))))
   (de (Bf (j:=6) rG (fZ mJ).names [8] jd.nd rfl rfl rfl (lu rfl T.nK (a_ f_ e_)) rfl (by decide+kernel) (fun _ _ _ _=>(iy (i:=8) jd.nd rfl (Or.inl rfl))) (fun _ _ _ _=>mU) (fun _ _ _ _=>yG (rl O.sP sC hr (a_ (gm iX (rl O.jJ jh hr (a_ (pv 0) (a_ f_ e_))) f_) (a_ (pv 8) e_)))))
   (de (iC aar rfl (ie (pv 5)) (rm 7 jd) (fO (hG (Ax (pv 4) O.gw O.zG CL hr (a_ (pv 7) e_)))))
   (de (iC aar rfl (lu rfl T.nK (a_ (pv 2) e_)) (rm 8 jd) (de (kX 9 jd (rl O.jJ jh hr (a_ (pv 0) (a_ (gm iJ (pv 1) (pv 8)) e_))))
   (de (ua (iE (ip Qk (gm iJ (pv 1) (pv 8)) (hZ gn (by rfl) T.jP aay (a_ (pv 0) e_)) (iN _)) (fO (kX 9 jd (rl O.Br EG hr (a_ (rl O.jJ jh hr (a_ (pv 0) (a_ f_ e_))) (a_ (pv 8) (a_ f_ e_)))))) ia))
   (fO (hG (rl O.Bt EH hr (a_ (pv 4) (a_ (pv 5) (a_ (pv 6) (a_ (pv 9) (a_ (rl O.sP sC hr (a_ (gm iX (rl O.jJ jh hr (a_ (pv 0) (a_ f_ e_))) f_) (a_ (pv 8) e_))) (a_ (pv 3) e_))))))))))))
   (fO (h_ (i8 (a_ (pv 4) (a_ (pv 5) (a_ (pv 6) e_))))))))))),?_⟩
 refine Qy ?_;intro _ _ _ _ _
 intro d px nd Wy nxd
 refine⟨d,px,rfl,b_,fun H1 W X1 hW k1=>⟨rfl,?_⟩⟩
 have s0:gg H (upd (upd H px (.own d)) d (.ins A.gj px [])):=fun b o e=>by rw[d_ (gb e nd),d_ (gb e Wy)];exact e
 have s1:gg H H1:=fun b o e=>k1 b o (s0 b o e) (gb e nd)
 have hW0:∀b,W b→H b=none:=fun b hb=>s0.free (hW b hb)
 refine⟨_,rfl,by decide,by decide,?_⟩
 let Jv:=fun(m:Nat) (ys:List V) (σ:St) (H2:Hp)=>∃(v8:Option V),σ=[rr a,ri first,ri n,some (.bl bk),rr d,none,none,none,v8,none]∧H2=H1∧ys=gh ((List.range m).map fun(j:Nat)=>nameOf (EL ns 0) j)
 refine uS (n:=3) (by decide) Jv ⟨none,rfl,rfl,rfl⟩ (by rintro _ _ _ _ ⟨_,_,_,e⟩;rw[e];simp) ?_ ?_
 ·rintro m ys σ H2 hm ⟨v8,rfl,rfl,rfl⟩
  refine⟨_,rfl,a,ns,0,rfl,qz ha s1,by decide,_,_,rfl,rfl,(by show(0:Int)<20736;decide),_,rfl,_,_,rfl,?_⟩
  refine⟨_,rfl,rfl,?_⟩
  rw[List.range_succ,aau,←lL]
  show _++[V.str (nameOf (EL ns 0) (0+(m:Int)))]=_
  rw[Int.zero_add]
  rfl
 rintro ys σ H2 ⟨v8,rfl,rfl,rfl⟩ ss Pa
 have s2:=s1.new (o:=.lst (gh (vV ns))) Pa
 have X2:=X1.same ((gg.refl H2).new (o:=.lst (gh (vV ns))) Pa)
 have SG:(upd H2 ss (.lst (gh (vV ns)))) ss=some (.lst (gh (vV ns))):=b_
 have WO:gh ((List.range 3).map fun(j:Nat)=>nameOf (EL ns 0) j)=gh (vV ns):=rfl
 rw[WO]
 generalize upd H2 ss (.lst (gh (vV ns)))=H3 at s2 X2 SG
 refine⟨_,rfl,by decide,by decide,?_⟩
 let Jv:=fun(m:Nat) (ys:List V) (σ:St) (H2:Hp)=>∃(v8:Option V),σ=[rr a,ri first,ri n,some (.bl bk),rr d,rr ss,none,none,v8,none]∧H2=H3∧ys=gh ((List.range m).map fun(j:Nat)=>nameOf (EL ns 1) j)
 refine uS (n:=2) (by decide) Jv ⟨none,rfl,rfl,rfl⟩ (by rintro _ _ _ _ ⟨_,_,_,e⟩;rw[e];simp) ?_ ?_
 ·rintro m ys σ H2 hm ⟨v8,rfl,rfl,rfl⟩
  refine⟨_,rfl,a,ns,1,rfl,qz ha s2,by decide,_,_,rfl,rfl,(by show(0:Int)<20736;decide),_,rfl,_,_,rfl,?_⟩
  refine⟨_,rfl,rfl,?_⟩
  rw[List.range_succ,aau,←lL]
  show _++[V.str (nameOf (EL ns 1) (0+(m:Int)))]=_
  rw[Int.zero_add]
  rfl
 rintro ys σ H4 ⟨v8,rfl,rfl,rfl⟩ fs zZ
 have WQ:gh ((List.range 2).map fun(j:Nat)=>nameOf (EL ns 1) j)=gh (yF ns):=rfl
 rw[WQ]
 have s3:=s2.new (o:=.lst (gh (yF ns))) zZ
 have X3:=X2.same ((gg.refl H4).new (o:=.lst (gh (yF ns))) zZ)
 have Pc:=ix (u:=.lst (gh (yF ns))) zZ SG
 have SH:(upd H4 fs (.lst (gh (yF ns)))) fs=some (.lst (gh (yF ns))):=b_
 generalize upd H4 fs (.lst (gh (yF ns)))=H5 at s3 X3 Pc SH
 dsimp only [l6];refine IV ?_;intro _
 let Jv:=fun(i:Nat) (σ:St) (H6:Hp)=>∃(v7:Option V)(D:Dk)(W:Addr→Prop),σ=[rr a,ri first,ri n,some (.bl bk),rr d,rr ss,rr fs,v7,none,none]∧gg H H6∧H6 ss=some (.lst (gh (vV ns)))∧H6 fs=some (.lst (gh (yF ns)))∧iw A H6 d D W∧(∀b,W b→H b=none)∧Inv D∧D.made=[]∧D.stores=(vV ns).take i
 refine⟨_,rfl,ss,rfl,⟨_,hV.of Pc⟩,iQ (K:=K) (a:=ss) (xs:=gh (vV ns)) Jv
  ⟨none,S8,W,rfl,s3,Pc,SH,X3,hW0,U_,rfl,rfl⟩ (by rintro _ _ _ _ ⟨_,_,_,_,_,e,_⟩;exact hV.of e) ?_ ?_⟩
 ·rintro i v σ H6 hx ⟨v7,D,W,rfl,s6,h1,h2,X6,SI,I6,P6,Pd⟩
  obtain⟨st,yt,rfl⟩:=jR hx
  have g:=zW st (VI yt)
  have PQ:i<3:=(RO.mp yt).1
  have HR:st∉D.stores:=fun hm=>by
   rw[Pd] at hm
   obtain⟨j,hj⟩:=aaP.mp hm
   have FR:j<i:=by have:=(RO.mp hj).1;rw[aap] at this;omega
   rw[abD,aas FR] at hj
   have:=(abJ (RO.mp hj).1 (HI ns)).mp (hj.trans yt.symm)
   omega
  obtain⟨π,y⟩:=id X6
  refine⟨_,rfl,d,π.dx,_,rfl,y.hd,JM,_,rfl,d,D,W,st,rfl,X6,g.AS,?_,fun h=>absurd g h,fun _ h=>absurd h HR,fun _ _ H7 W7 X7 s7 hW7=>?_⟩
  ·rw[Pd,aap];omega
  ·refine⟨_,D.begin st,W7,rfl,fun b o e=>?_,s7 _ _ h1 (X6.lst h1),s7 _ _ h2 (X6.lst h2),X7,fun b hb=>?_,I6.begin HR,P6,?_⟩
   ·exact s7 b o (s6 _ _ e) (fun hb=>by rw[SI b hb] at e;cases e)
   ·rcases hW7 b hb with h|h
    ·exact SI b h
    ·exact s6.free h
   ·show D.stores++[st]=_
    rw[Pd,take_snoc yt]
 rintro σ H6 ⟨v7,D0,W,rfl,s6,h1,h2,X6,SI,I6,P6,Pd⟩
 have Pd:D0.stores=vV ns:=by rw[Pd,RK];exact aaf
 refine⟨_,rfl,_,rfl,by omega,by omega,?_⟩
 rw[abW]
 let Jv:=fun(i:Nat) (σ:St) (H7:Hp)=>∃(v8 v9:Option V)(D:Dk),σ=[rr a,ri first,ri n,some (.bl bk),rr d,rr ss,rr fs,v7,v8,v9]∧gg H H7∧H7 ss=some (.lst (gh (vV ns)))∧H7 fs=some (.lst (gh (yF ns)))∧iw A H7 d D W∧Inv D∧Sz i D∧D.stores=vV ns∧∀x∈D.names,∃j:Nat,j<i∧x=nameOf (EL ns 3) j
 refine nN Jv
  ⟨none,none,D0,rfl,s6,h1,h2,X6,I6,⟨by rw[P6];exact U0 _,by rw[P6];exact U0 _,by rw[P6];exact U0 _⟩,Pd,fun x hx=>by unfold Dk.names at hx;rw[P6] at hx;cases hx⟩ ?_ ?_
 ·rintro i σ H7 hi ⟨v8,v9,D,rfl,s7,k1,k2,X7,I7,z7,T6,MN⟩
  rw[show(0:Int)+(i:Int)=(i:Int) by omega]
  refine⟨_,rfl,_,rfl,_,rfl,_,_,rfl,rfl,a,ns,_,rfl,qz ha s7,by omega,?_⟩
  refine⟨fun σ H8=>∃c:Int,σ=[rr a,ri first,ri n,some (.bl bk),rr d,rr ss,rr fs,v7,ri i,ri c]∧H8=H7,?_,?_⟩
  ·refine⟨_,rfl,_,rfl,_,_,rfl,rfl,_,rfl,a,_,rfl,.inl (qz ha s7),_,_,rfl,rfl,_,rfl,?_⟩
   refine kI (fun _=>?_) (fun _=>⟨_,rfl,rfl⟩)
   refine⟨_,rfl,a,ns,2,rfl,qz ha s7,by decide,_,rfl,_,_,_,rfl,by decide,by omega,by omega,fun x _ _=>⟨x,rfl,rfl⟩⟩
  rintro σ H8 ⟨c,rfl,rfl⟩
  refine⟨_,rfl,_,rfl,_,rfl,_,rfl,_,rfl,a,ns,3,rfl,qz ha s7,by decide,_,_,rfl,rfl,(by show(0:Int)<20736;decide),_,rfl,_,_,rfl,_,rfl,?_⟩
  have gx:=nP (EL ns 3) (i:Int)
  refine⟨d,ss,fs,D,W,i,vV ns,yF ns,c,_,bk,rfl,X7,I7,z7,by omega,k1,(by unfold vV;simp),(by show 3≤1000;decide),fun t ht=>⟨by rw[T6];exact ht,(zW t ht).AS⟩,k2,(by unfold yF;simp),(by show 2≤1000;decide),JU,gx,fun hm=>?_,fun t ht=>?_,fun H9 D' X9 s9 I9 z9 hs9 hn9=>?_⟩
  ·obtain⟨j,hj,e⟩:=MN _ hm
   have:=Eo (by omega) (by omega) (by omega) (by omega) e
   omega
  ·obtain⟨j,hj,e⟩:=MN _ ht
   rw[e];exact(nP _ _).AS
  ·refine⟨_,_,D',rfl,fun b o e=>s9 b o (s7 _ _ e) (fun hb=>by rw[SI b hb] at e;cases e),s9 _ _ k1 (X7.lst k1),s9 _ _ k2 (X7.lst k2),X9,I9,z9,hs9.trans T6,fun t ht=>?_⟩
   rcases hn9 with e|e
   ·rw[e] at ht
    obtain⟨j,hj,e⟩:=MN _ ht
    exact⟨j,by omega,e⟩
   ·rw[e] at ht
    rcases XX.mp ht with ht|ht
    ·obtain⟨j,hj,e⟩:=MN _ ht
     exact⟨j,by omega,e⟩
    ·exact⟨i,by omega,US.mp ht⟩
 ·rintro σ H7 ⟨v8,v9,D,rfl,s7,k1,k2,X7,I7,z7,T6,MN⟩
  refine⟨_,rfl,_,rfl,_,rfl,L2.jQ,fun b hb=>?_⟩
  have s8:=s7.new (o:=.lst [.ref d,.ref ss,.ref fs]) hb
  exact q b d ss fs D W _ ⟨s8,s7.free hb,b_,ix hb k1,ix hb k2,X7.same ((gg.refl H7).new hb),SI,I7,z7,T6,MN⟩
inductive Dv where
 | o
 | s (x:Str)
 | i (n:Int)
 | l (xs:List Dv)
 | t (xs:List Dv)
inductive Rep(H:Hp):Nat→V→Dv→Prop
 | o {n}:Rep H n .jn .o
 | s {n x}:Rep H n (.str x) (.s x)
 | i {n x}:Rep H n (.int x) (.i x)
 | l {n a vs xs} (h:H a=some (.lst vs)) (hl:vs.length=xs.length) (hr:∀(j:Nat) u d,vs[j]?=some u→xs[j]?=some d→Rep H n u d):Rep H (n+1) (.ref a) (.l xs)
 | t {n a vs xs} (h:H a=some (.tup vs)) (hl:vs.length=xs.length) (hr:∀(j:Nat) u d,vs[j]?=some u→xs[j]?=some d→Rep H n u d):Rep H (n+1) (.ref a) (.t xs)
theorem Rep.same{H H':Hp}{n:Nat}{v:V}{d:Dv}(r:Rep H n v d)(s:gg H H'):Rep H' n v d:=by
 induction r with
 | o=>exact .o
 | s=>exact .s
 | i=>exact .i
 | l h hl _ ih=>exact .l (s _ _ h) hl ih
 | t h hl _ ih=>exact .t (s _ _ h) hl ih
theorem Rep.BC{H:Hp}{n:Nat}{a:Addr}{β:Type}{F:V→β→Prop}{g:β→Dv}{vs:List V}{xs:List β}(h:H a=some (.lst vs))(p:Paired F vs xs)(hF:∀v x,F v x→Rep H n v (g x)):Rep H (n+1) (.ref a) (.l (xs.map g)):=by
 refine .l h (by rw[RK];exact aao p) fun j u d hu hd=>?_
 obtain⟨x,hx,f⟩:=ir p hu
 rw[aak,hx] at hd
 cases hd
 exact hF u x f
def LP:Sp:=fun vs H Q _=>∃(a b:Addr)(x y:List Str),vs=[.ref a,.ref b]∧H a=some (.lst (gh x))∧H b=some (.lst (gh y))∧Q (.bl (decide (x=y))) H
theorem Oy:W.kitOne K (.type "list") (.type "list")=some true:=aas (by decide)
theorem Oz:W.kitOne K (.type "str") (.type "str")=some true:=aas (by decide)
theorem CF(T:Txt mg)(O:Ok K mg A):ik P w K mg base mT 1 A.pU A.pV ["found","due"] LP:=by
 refine O.oh.f.q0 oP fun jx A outer s H vs Q E hr h=>?_
 obtain⟨a,b,x,y,rfl,ha,hb,q⟩:=h
 refine⟨_,(de (iE ((pw_or (q8 (vU (hZ xo (by rfl) T.ve PyProof.Rows.boot_isinstance (a_ (pv 0) (a_ (Gb (v:=.ty "list") (by rfl) T.wK abM rfl) e_))))) (pw_or1 (ip Gh (hZ gn (by rfl) T.jP aay (a_ (pv 0) e_)) (hZ gn (by rfl) T.jP aay (a_ (pv 1) e_)) (iN _)))).pt) (fO (h_ lD)) ia)
   (de (iC aar rfl (ie (pv 0)) (rm 2 oP) (fO (iE (q8 (vU (hZ xo (by rfl) T.ve PyProof.Rows.boot_isinstance (a_ (pv 2) (a_ (Gb (v:=.ty "str") (by rfl) T.QI PyProof.Rows.boot_str rfl) e_))))) (fO (h_ lD)) ia)))
   (fO (h_ (Gj (IK 3 (by exact UW hr)) (pv 0) (pv 1) (iN _)))))),?_⟩
 refine EK ?_;intro _ _
 refine⟨_,rfl,_,_,_,_,rfl,.lst ha,Oy,_,rfl,kA ?_⟩
 refine⟨_,rfl,a,_,rfl,.inl (hV.of ha),_,rfl,b,_,rfl,.inl (hV.of hb),rfl,_,rfl,?_⟩
 refine kI (fun hc=>?_) (fun hc=>?_)
 ·rw[aah fun z=>?_] at q
  ·exact q
  ·subst z;simp at hc
 ·let Jv:=fun(i:Nat) (σ:St) (H2:Hp)=>∃v,σ=[rr a,rr b,v]∧H2=H
  refine⟨_,rfl,a,rfl,⟨_,hV.of ha⟩,iQ (K:=K) (a:=a) (xs:=gh x) Jv ⟨none,rfl,rfl⟩ (by rintro _ _ _ _ ⟨_,_,e⟩;subst e;exact hV.of ha) ?_ ?_⟩
  ·rintro i v σ H2 hv ⟨u,rfl,rfl⟩
   obtain⟨z,_,rfl⟩:=jR hv
   refine⟨_,rfl,_,_,_,_,rfl,.str z,Oz,_,rfl,kA ?_⟩
   exact⟨_,rfl,rfl⟩
  ·rintro σ H2 ⟨u,rfl,rfl⟩
   exact⟨_,rfl,_,rfl,_,⟨a,b,rfl,rfl⟩,Cz (hV.of ha) (hV.of hb),q⟩
noncomputable def LQ:Option Str→Dv
 | none=>.o
 | some x=>.s x
noncomputable def Pz(n:Nm):Dv:=.t [.s n.1,.i n.2]
noncomputable def optN:Option Nm→Dv
 | none=>.o
 | some n=>Pz n
noncomputable def putD(l:Ln):Dv:=.t [.s l.tx,optN l.up,optN l.lo]
noncomputable def X_(p:Pt):Dv:=.t [LQ p.file,.l (p.ig.map putD),.l (p.i4.map Pz),LQ p.other]
theorem Px.rep{H:Hp}{n:Nat}{v:V}{o:Option Str}(h:Px v o):Rep H n v (LQ o):=by
 cases o with
 | none=>have h:v=.jn:=h;rw[h];exact .o
 | some x=>have h:v=.str x:=h;rw[h];exact .s
theorem kP.rep{H:Hp}{n:Nat}{v:V}{m:Nm}(h:kP H v m):Rep H (n+1) v (Pz m):=by
 obtain⟨t,rfl,ht⟩:=h
 refine .t ht rfl fun j u d hu hd=>?_
 match j with
 | 0=>cases hu;cases hd;exact .s
 | 1=>cases hu;cases hd;exact .i
 | j+2=>simp at hd
theorem Ea.rep{H:Hp}{n:Nat}{v:V}{o:Option Nm}(h:Ea H v o):Rep H (n+1) v (optN o):=by
 cases o with
 | none=>have h:v=.jn:=h;rw[h];exact .o
 | some x=>exact kP.rep h
def OA(A:Ad):Sp:=fun vs H Q E=>∃(d:Addr)(D:Dk)(W:Addr→Prop)(x:Str),vs=[.ref d,.str x]∧iw A H d D W∧ki x∧Small D.made∧(x∉D.names→E (.ref A.gk) none H)∧∀pt∈D.made,pt.nm=x→∀p H',gg H H'→H p=none→Rep H' 4 (.ref p) (X_ pt)→Q (.ref p) H'
theorem GL(T:Txt mg)(O:Ok K mg A):ik P w K mg base (sI P w) 2 A.xO A.xP ["self","patch"] (OA A):=by
 have l4:=@tT P w K mg base A T O
 refine O.sN.f.p8 nJ fun jx A0 outer s H vs Q E hr h=>?_
 obtain⟨d,D,W,y,rfl,X,hf,sm,qe,q⟩:=h
 obtain⟨π,x⟩:=id X
 have sz:sizeLine=16777216:=aaC
 refine⟨_,(de (hG (Ay bx (pv 0) O.gw O.nr l4 hr (a_ (pv 1) e_)))
   (de (kX 2 nJ (xp hr (gq (pv 0) rfl) (pv 1)))
   (de (Bf (j:=3) xw (fZ oJ).names [4] nJ.nd rfl rfl rfl (ie (gq (pv 2) rfl)) rfl (by decide+kernel) (fun _ _ _ _=>(iy (i:=4) nJ.nd rfl (Or.inl rfl))) (fun _ _ _ _=>mU) (fun _ _ _ _=>yG (vZ (a_ (gq (pv 4) rfl) (a_ (gq (pv 4) rfl) (a_ (gq (pv 4) rfl) e_))))))
   (fO (h_ (vZ (a_ (gq (pv 2) rfl) (a_ (pv 3) (a_ (sG uR (by rfl) T.wK abM (a_ (gq (pv 2) rfl) e_)) (a_ (gq (pv 2) rfl) e_)))))))))),?_⟩
 refine K3 ?_;intro _ _ _
 refine⟨_,rfl,d,π.dx,_,rfl,x.hd,tR,_,rfl,d,D,W,y,rfl,X,hf,fun hy=>?_,fun hy=>qe hy⟩
 obtain⟨pt,ER,rfl⟩:=aaH.mp hy
 obtain⟨a,z1,⟨dx,vf,pu,cu,vo,g1,g2,⟨as,g3,g4⟩,⟨cs,g5,g6⟩,g7⟩⟩:=x.vm pt ER
 have o3:pt.ig.length≤4000:=by
  obtain⟨l1,l2,e⟩:=List.append_of_mem ER
  have h:=sm.ig
  rw[e,aa1,aaA,UZ,UZ] at h
  have h:_≤4000:=h
  omega
 refine⟨_,rfl,d,A.gj,π.dx,_,_,rfl,x.hd,O.gw,O.iM,mL _ _ _,_,rfl,π.m,.ref a,rfl,?_,?_⟩
 ·have:=iT.k (k:=sk pt.nm) x.hm
  rw[z1] at this
  exact this
 have Sj:=aao g4
 let Jv:=fun(i:Nat) (ys:List V) (σ:St) (H2:Hp)=>∃(v:Option V),σ=[rr d,rs pt.nm,rr a,none,v]∧gg H H2∧Paired (fun v l=>Rep H2 2 v (putD l)) ys (pt.ig.take i)
 refine⟨_,rfl,a,A.gz,dx,_,_,rfl,g1,O.iZ,O.jv,zH,pu,rfl,⟨_,hV.of g3⟩,jE (K:=K) (a:=pu) (xs:=as.map V.ref) (by rw[RK];omega) Jv
  ⟨none,rfl,gg.refl _,.nil⟩ (by rintro _ _ _ _ _ ⟨_,_,e,e2⟩;exact⟨hV.of (e _ _ g3),by rw[aao e2,aap];omega⟩) ?_ ?_⟩
 ·rintro i v ys σ H2 hv ⟨v4,rfl,s2,e2⟩
  rw[aak] at hv
  obtain⟨b,hb,rfl⟩:=aaF.mp hv
  obtain⟨l,hl,⟨Ky,vn,vu,vl,k1,k2,k3,k4⟩⟩:=ir g4 hb
  have WT:=s2 _ _ k1
  refine⟨_,rfl,b,A.g_,Ky,_,_,rfl,WT,O.iG,O.js,vC,_,rfl,b,A.g_,Ky,_,_,rfl,WT,O.iG,O.iz,Ci,_,rfl,b,A.g_,Ky,_,_,rfl,WT,O.iG,O.iA,Cj,L2.jQ,fun t ht=>?_⟩
  have s3:gg H2 (upd H2 t (.tup [.str l.tx,vu,vl])):=(gg.refl _).new ht
  refine⟨_,rfl,s2.trans s3,?_⟩
  rw[take_snoc hl]
  refine iD (Paired.kS e2 fun _ _ z=>z.same s3) ?_
  refine .t b_ rfl fun j u d hu hd=>?_
  match j with
  | 0=>cases hu;cases hd;exact .s
  | 1=>cases hu;cases hd;exact(k3.same (s2.trans s3)).rep
  | 2=>cases hu;cases hd;exact(k4.same (s2.trans s3)).rep
  | j+3=>simp at hu
 ·rintro ys σ H2 ⟨v4,rfl,s2,e2⟩ p hp
  rw[RK,Sj,aaf] at e2
  have s3:=s2.new (o:=.lst ys) hp
  have w3:gg H2 (upd H2 p (.lst ys)):=(gg.refl _).new hp
  have u3:(upd H2 p (.lst ys)) p=some (.lst ys):=b_
  generalize upd H2 p (.lst ys)=H3 at s3 u3 w3
  refine⟨_,rfl,a,A.gz,dx,_,_,rfl,s3 _ _ g1,O.iZ,O.jM,Eb,_,rfl,_,rfl,a,A.gz,dx,_,_,rfl,s3 _ _ g1,O.iZ,O.jw,zI,cu,_,rfl,.inl (hV.of (s3 _ _ g5)),fun c hc=>?_⟩
  have w4:gg H3 (upd H3 c (.lst cs)):=(gg.refl _).new hc
  have u4:(upd H3 c (.lst cs)) c=some (.lst cs):=b_
  generalize upd H3 c (.lst cs)=H4 at w4 u4
  have s4:=s3.trans w4
  refine⟨_,rfl,a,A.gz,dx,_,_,rfl,s4 _ _ g1,O.iZ,O.iR,pW,L2.jQ,fun r qB=>?_⟩
  have w5:gg H4 (upd H4 r (.tup [vf,.ref p,.ref c,vo])):=(gg.refl _).new qB
  refine q pt ER rfl r _ (s4.trans w5) (s4.free qB) ?_
  refine .t b_ rfl fun j u d hu hd=>?_
  match j with
  | 0=>cases hu;cases hd;exact g2.rep
  | 1=>cases hu;cases hd;exact(Rep.BC ((w4.trans w5) _ _ u3) e2 fun _ _ z=>(z.same w3).same (w4.trans w5))
  | 2=>cases hu;cases hd;exact Rep.BC (n:=2) (w5 _ _ u4) g6 fun _ _ z=>(kP.rep (z.same (s4.trans w5)))
  | 3=>cases hu;cases hd;exact g7.rep
  | j+4=>simp at hu
end
end PK
namespace L2
open PySem PySem.Spec PyProof.Rows
theorem OB{K:Qqy}{a:Addr}{xs:List V}{g:TG}{tt:TT}{te:TE}{Q:List V→Hp→Prop}{σ:St}{H:Hp}(hn:xs.length≤sizeLine)(Pv:Nat→List V→St→Hp→Prop)(h0:Pv 0 [] σ H)(hl:∀i ys σ H,i≤xs.length→Pv i ys σ H→pk K H a xs∧ys.length≤i)
  (hs:∀i x ys σ H,xs[i]?=some x→Pv i ys σ H→g x σ H fun σ2 H2=>tt σ2 H2 fun b H3=>if b=true then te σ2 H3 fun v H4=>Pv (i+1) (ys++[v]) σ2 H4 else Pv (i+1) ys σ2 H3)
  (hd:∀ys σ H,Pv xs.length ys σ H→Q ys H):Fi g tt te (Um K a) Q σ H:=by
 refine⟨fun i m ys σ H=>m=xs.length-i∧i≤xs.length∧Pv i ys σ H,⟨xs.length,by simp,aaK _,h0⟩,?_⟩
 rintro i m ys σ H ⟨rfl,hi,p⟩
 obtain⟨q,hy⟩:=hl i ys σ H hi p
 by_cases lq:i<xs.length
 ·refine .inr ⟨⟨xs,xs[i],q,by simp[lq]⟩,by omega,Pv (i+1),fun ON σ' H' p'=>⟨xs.length-(i+1),by omega,rfl,lq,p'⟩,fun x H' y=>?_⟩
  obtain⟨rfl,y⟩:=y
  exact hs i x ys σ _ (y xs q) p
 ·have e:i=xs.length:=by omega
  subst e
  exact .inl ⟨⟨xs,q,U0 _⟩,by omega,hd ys σ H p⟩
end L2
namespace PK
open PySem L2 PM
theorem Rep.tupI{H:Hp}{n:Nat}{v:V}{xs:List Dv}(r:Rep H n v (.t xs)):∃a m vs,v=.ref a∧H a=some (.tup vs)∧vs.length=xs.length∧∀(j:Nat) u d,vs[j]?=some u→xs[j]?=some d→Rep H m u d:=by
 cases r with
 | t h hl hr=>exact⟨_,_,_,rfl,h,hl,hr⟩
theorem Rep.Q7{H:Hp}{n:Nat}{v:V}{xs:List Dv}(r:Rep H n v (.l xs)):∃a m vs,v=.ref a∧H a=some (.lst vs)∧vs.length=xs.length∧∀(j:Nat) u d,vs[j]?=some u→xs[j]?=some d→Rep H m u d:=by
 cases r with
 | l h hl hr=>exact⟨_,_,_,rfl,h,hl,hr⟩
theorem Rep.Ya{H:Hp}{n:Nat}{v:V}{m:Nm}(r:Rep H n v (Pz m)):∃a,v=.ref a∧H a=some (.tup [.str m.1,.int m.2]):=by
 obtain⟨a,k,vs,rfl,h,hl,hr⟩:=r.tupI
 match vs,hl with
 | [x,y],_=>
  have h0:=hr 0 x _ rfl rfl
  have h1:=hr 1 y _ rfl rfl
  cases h0
  cases h1
  exact⟨a,rfl,h⟩
noncomputable def pd(x:Str):Option Nm→List Str
 | none=>[]
 | some n=>if n.1≠x then[n.1] else[]
noncomputable def kQ(p:Pt):List Str:=(p.ig.flatMap fun l=>[l.up,l.lo].flatMap (pd p.nm))++p.i4.map (·.1)++p.other.toList
theorem pe{p:Pt}(h:∀n∈p.i4,n.1≠p.nm)(y:Str):y∈kQ p↔y∈il p:=by
 have ho:∀o:Option Nm,y∈pd p.nm o↔∃n∈o.toList,n.1≠p.nm∧n.1=y:=fun o=>by
  cases o with
  | none=>simp[pd]
  | some n=>
   unfold pd
   by_cases e:n.1=p.nm
   ·simp[e]
   ·show y∈(if n.1≠p.nm then[n.1] else[])↔_
    rw[aas e]
    refine⟨fun h=>⟨n,by simp,e,(US.mp h).symm⟩,?_⟩
    rintro⟨m,hm,_,rfl⟩
    have hm:m=n:=US.mp hm
    rw[hm];simp
 unfold kQ il named
 simp only [XX,aa6,aaH,aaq,XW,abE,or_false,abI]
 constructor
 ·rintro((⟨l,hl,o,om,hy⟩|⟨n,hn,rfl⟩)|hy)
  ·obtain⟨n,hn,h1,h2⟩:=(ho o).mp hy
   refine .inl ⟨n,⟨.inr ⟨l,hl,?_⟩,h1⟩,h2⟩
   rcases om with rfl|rfl
   ·exact .inl hn
   ·exact .inr hn
  ·exact .inl ⟨n,⟨.inl hn,h n hn⟩,rfl⟩
  ·exact .inr hy
 ·rintro(⟨n,⟨hn|⟨l,hl,hn⟩,h1⟩,rfl⟩|hy)
  ·exact .inl (.inr ⟨n,hn,rfl⟩)
  ·refine .inl (.inl ⟨l,hl,?_⟩)
   rcases hn with hn|hn
   ·exact⟨l.up,.inl rfl,(ho _).mpr ⟨n,hn,h1,rfl⟩⟩
   ·exact⟨l.lo,.inr rfl,(ho _).mpr ⟨n,hn,h1,rfl⟩⟩
  ·exact .inr hy
theorem Yb(m n h:Addr):(yL m n h).lookup ("told":Str)=none:=by kernel_rfl
section
variable{P:Program}{w:World}{K:Qqy}{mg:Qqx}{base:Heap}{A:Ad}
def FO:Sp:=fun vs H Q _=>∃(t:Addr)(pt:Pt),vs=[.ref t,.str pt.nm]∧Rep H 4 (.ref t) (X_ pt)∧pt.ig.length≤4000∧pt.i4.length≤4000∧∀p H',gg H H'→H' p=some (.lst (gh (kQ pt)))→Q (.ref p) H'
theorem Es(x:Str)(ls:List Ln):(ls.flatMap fun l=>[l.up,l.lo].flatMap (pd x)).length≤2*ls.length:=by
 induction ls with
 | nil=>simp
 | cons l r ih=>
  have h:∀o,(pd x o).length≤1:=fun o=>by
   cases o with
   | none=>simp[pd]
   | some n=>unfold pd;by_cases e:n.1≠x<;>simp[e]
  have h1:=h l.up
  have h2:=h l.lo
  rw[aaA,UZ,aae]
  simp only [aaA,abr,UZ,List.length_nil,aaN] at ih ⊢
  omega
theorem Et(T:Txt mg)(O:Ok K mg A):ik P w K mg base mT 1 A.qT A.qU ["told","name"] FO:=by
 refine O.tQ.f.q0 ja fun jx A0 outer s H vs Q E hr h=>?_
 obtain⟨t,pt,rfl,rep,PY,OX,q⟩:=h
 have sz:sizeLine=16777216:=aaC
 obtain⟨t',m,vs,et,ht,hl,qB⟩:=rep.tupI
 cases et
 obtain⟨x0,x1,x2,x3,rfl⟩:∃a b c d,vs=[a,b,c,d]:=by
  match vs,hl with
  | [a,b,c,d],_=>exact⟨a,b,c,d,rfl⟩
 obtain⟨pu,m1,us,rfl,Zf,WU,hur⟩:=(qB 1 x1 (.l (pt.ig.map putD)) rfl rfl).Q7
 obtain⟨cu,m2,cs,rfl,Zg,EN,Yu⟩:=(qB 2 x2 (.l (pt.i4.map Pz)) rfl rfl).Q7
 have r3:Rep H m x3 (LQ pt.other):=qB 3 x3 _ rfl rfl
 rw[RK] at WU EN
 refine⟨_,(de (kX 2 ja (i8 e_))
   (de (iC aar rfl (ie (jO mR (pv 0) f_ (fun _ _=>rfl))) (rm 3 ja) (fO (kX 2 ja (gm l8 (pv 2) (p3 ni (fZ ke).names [4] rfl (M6 (lG Ng (pv 3) (nH f_) nG)) rfl (by decide+kernel) (fun _ _ _ _=>(iy (i:=4) ja.nd rfl (Or.inl rfl))) (fun _ _ _ _=>⟨_,l_ ((pw_and (i7 (oy (pv 4))) (pw_and1 (ip Gh (jO mR (pv 4) f_ (fun _ _=>rfl)) (pv 1) (iN _)))).pt),by(try simp only [j6]);rfl⟩) (fun _ _ _ _=>yG (jO mR (pv 4) f_ (fun _ _=>rfl))))))))
   (de (kX 2 ja (gm l8 (pv 2) (xn ni (fZ ke).names [4] rfl (ie (jO mR (pv 0) f_ (fun _ _=>rfl))) rfl (by decide+kernel) (fun _ _ _ _=>(iy (i:=4) ja.nd rfl (Or.inl rfl))) (fun _ _ _ _=>mU) (fun _ _ _ _=>yG (jO mR (pv 4) f_ (fun _ _=>rfl))))))
   (de (iE (i7 (oy (jO mR (pv 0) f_ (fun _ _=>rfl)))) (fO (hG (oA aaJ aaQ aaR jW (pv 2) (a_ (jO mR (pv 0) f_ (fun _ _=>rfl)) e_)))) ia)
   (fO (h_ (pv 2))))))),?_⟩
 refine NH ?_;intro _ _ _ _
 refine⟨L2.jQ,fun f0 T1=>?_⟩
 have s1:gg H (upd H f0 (.lst [])):=(gg.refl H).new T1
 let Jv:=fun(i:Nat) (σ:St) (H2:Hp)=>∃(v3 v4:Option V)(f:Addr),σ=[rr t,rs pt.nm,rr f,v3,v4]∧gg H H2∧H2 f=some (.lst (gh ((pt.ig.take i).flatMap fun l=>[l.up,l.lo].flatMap (pd pt.nm))))
 refine⟨_,rfl,t,_,_,_,rfl,rfl,pk.of (s1 _ _ ht),iF (j:=1) rfl rfl,pu,rfl,⟨_,hV.of (s1 _ _ Zf)⟩,iQ (K:=K) (a:=pu) (xs:=us) Jv
  ⟨none,none,f0,rfl,s1,b_⟩ (by rintro _ _ _ _ ⟨_,_,_,_,e,_⟩;exact hV.of (e _ _ Zf)) ?_ ?_⟩
 ·rintro i v σ H2 hv ⟨v3,v4,f,rfl,s2,hf⟩
  have hi:i<pt.ig.length:=by rw[←WU];exact(RO.mp hv).1
  obtain⟨l,hl⟩:∃l,pt.ig[i]?=some l:=⟨_,VN hi⟩
  obtain⟨ap,m3,ps,rfl,hap,o3,O3⟩:=(hur i v (putD l) hv (by rw[aak,hl];rfl)).tupI
  obtain⟨w0,w1,w2,rfl⟩:∃a b c,ps=[a,b,c]:=by
   match ps,o3 with
   | [a,b,c],_=>exact⟨a,b,c,rfl⟩
  have hw:∀(j:Nat)(u:V),[w1,w2][j]?=some u→∃o,[l.up,l.lo][j]?=some o∧Rep H m3 u (optN o):=fun j u hu=>by
   match j with
   | 0=>cases hu;exact⟨l.up,rfl,O3 1 _ _ rfl rfl⟩
   | 1=>cases hu;exact⟨l.lo,rfl,O3 2 _ _ rfl rfl⟩
   | j+2=>simp at hu
  refine⟨_,rfl,_,rfl,_,rfl,ap,_,rfl,pk.of (s2 _ _ hap),(fun z=>absurd (show(1:Nat)=0 from z.1) (by decide)),fun sl J4=>?_⟩
  have s3:gg H2 (upd H2 sl (.tup [w1,w2])):=(gg.refl _).new J4
  have u3:(upd H2 sl (.tup [w1,w2])) sl=some (.tup [w1,w2]):=b_
  rw[show rb [w0,w1,w2] (some 1) none=[w1,w2] from rfl]
  generalize upd H2 sl (.tup [w1,w2])=H3 at s3 u3
  have SD:=s2.trans s3
  refine⟨sl,rfl,⟨_,pk.of u3⟩,OB (K:=K) (a:=sl) (xs:=[w1,w2]) (by simp[sz]) (fun j ys σ H4=>∃(v4:Option V)(zs:List Str),σ=[rr t,rs pt.nm,rr f,rr ap,v4]∧H4=H3∧ys=gh zs∧zs.length≤j∧zs=([l.up,l.lo].take j).flatMap (pd pt.nm))
   ⟨none,[],rfl,rfl,rfl,U0 _,rfl⟩ (by rintro _ _ _ _ _ ⟨_,zs,_,e,e2,e3,_⟩;rw[e,e2];exact⟨pk.of u3,by rw[RK];exact e3⟩) ?_ ?_⟩
  ·rintro j u ys σ H4 hu ⟨v4,zs,rfl,rfl,rfl,e3,e4⟩
   obtain⟨o,ho,ro⟩:=hw j u hu
   have et:=take_snoc ho
   cases o with
   | none=>
    cases ro
    refine⟨_,rfl,_,rfl,DB (by rfl) (DB (by rfl) ⟨_,_,rfl,rfl,rfl,by omega,?_⟩)⟩
    rw[et,aa1,←e4]
    simp[pd]
   | some n=>
    obtain⟨an,rfl,P5⟩:=Rep.Ya ro
    have SJ:=SD _ _ P5
    refine⟨_,rfl,_,rfl,DC (by rfl) ?_⟩
    refine⟨_,rfl,an,_,_,_,rfl,rfl,pk.of SJ,iF (j:=0) rfl rfl,_,rfl,rfl,_,rfl,kI (fun hb=>?_) (fun hb=>?_)⟩
    ·have hb:n.1≠pt.nm:=fun e=>by rw[e] at hb;simp at hb
     refine⟨_,rfl,an,_,_,_,rfl,rfl,pk.of SJ,iF (j:=0) rfl rfl,_,_,rfl,rfl,iK _ _,?_,?_⟩
     ·rw[UZ];exact Nat.succ_le_succ e3
     ·rw[et,aa1,←e4]
      simp[pd,hb]
    ·have hb:n.1=pt.nm:=by
      by_cases e:n.1=pt.nm
      ·exact e
      ·exact absurd (by simp[e]) hb
     refine⟨_,_,rfl,rfl,rfl,by omega,?_⟩
     rw[et,aa1,←e4]
     simp[pd,hb]
  ·rintro ys σ H4 ⟨v4,zs,rfl,rfl,rfl,e3,e4⟩ cl Pe
   have e4:zs=[l.up,l.lo].flatMap (pd pt.nm):=e4
   subst e4
   have s4:gg H4 (upd H4 cl (.lst (gh ([l.up,l.lo].flatMap (pd pt.nm))))):=(gg.refl _).new Pe
   have hlen:=Es pt.nm (pt.ig.take i)
   rw[aap] at hlen
   refine⟨f,cl,_,_,rfl,rfl,s4 _ _ (s3 _ _ hf),b_,by rw[RK,RK];have e3:_≤2:=e3;omega,fun nf MO=>?_⟩
   have s5:=(SD.trans s4).new (o:=.lst (gh ((pt.ig.take i).flatMap fun l=>[l.up,l.lo].flatMap (pd pt.nm))++gh ([l.up,l.lo].flatMap (pd pt.nm)))) MO
   refine⟨_,_,nf,rfl,s5,?_⟩
   rw[b_,lL,take_snoc hl,aa1]
   simp
 ·rintro σ H2 ⟨v3,v4,f,rfl,s2,hf⟩
  rw[WU,aaf] at hf
  have hlen:=Es pt.nm pt.ig
  let Jv:=fun(j:Nat) (ys:List V) (σ:St) (H4:Hp)=>∃(v4:Option V),σ=[rr t,rs pt.nm,rr f,v3,v4]∧H4=H2∧ys=gh ((pt.i4.take j).map (·.1))
  refine⟨_,rfl,_,rfl,t,_,_,_,rfl,rfl,pk.of (s2 _ _ ht),iF (j:=2) rfl rfl,cu,rfl,⟨_,hV.of (s2 _ _ Zg)⟩,jE (K:=K) (a:=cu) (xs:=cs) (by omega) Jv
   ⟨none,rfl,rfl,rfl⟩ (by rintro _ _ _ _ _ ⟨_,_,e,e2⟩;rw[e,e2];exact⟨hV.of (s2 _ _ Zg),by rw[RK,RK,aap];omega⟩) ?_ ?_⟩
  ·rintro j u ys σ H4 hu ⟨v4,rfl,rfl,rfl⟩
   have hj:j<pt.i4.length:=by rw[←EN];exact(RO.mp hu).1
   obtain⟨n,hn⟩:∃n,pt.i4[j]?=some n:=⟨_,VN hj⟩
   obtain⟨an,rfl,P5⟩:=(Yu j u (Pz n) hu (by rw[aak,hn];rfl)).Ya
   refine⟨_,rfl,an,_,_,_,rfl,rfl,pk.of (s2 _ _ P5),iF (j:=0) rfl rfl,_,rfl,rfl,?_⟩
   rw[take_snoc hn,aau]
   exact iK _ _
  ·rintro ys σ H4 ⟨v4,rfl,rfl,rfl⟩ cl Pe
   rw[EN,aaf]
   have s4:gg H4 (upd H4 cl (.lst (gh (pt.i4.map (·.1))))):=(gg.refl _).new Pe
   refine⟨f,cl,_,_,rfl,rfl,s4 _ _ hf,b_,by rw[RK,RK,RK];omega,fun nf MO=>?_⟩
   have s5:=(s2.trans s4).new (o:=.lst (gh (pt.ig.flatMap fun l=>[l.up,l.lo].flatMap (pd pt.nm))++gh (pt.i4.map (·.1)))) MO
   have YU:H nf=none:=(s2.trans s4).free MO
   have u5:(upd (upd H4 cl (.lst (gh (pt.i4.map (·.1))))) nf (.lst (gh (pt.ig.flatMap fun l=>[l.up,l.lo].flatMap (pd pt.nm))++gh (pt.i4.map (·.1))))) nf=some (.lst (gh ((pt.ig.flatMap fun l=>[l.up,l.lo].flatMap (pd pt.nm))++pt.i4.map (·.1)))):=by rw[b_,lL]
   generalize upd (upd H4 cl (.lst (gh (pt.i4.map (·.1))))) nf (.lst (gh (pt.ig.flatMap fun l=>[l.up,l.lo].flatMap (pd pt.nm))++gh (pt.i4.map (·.1))))=H5 at s5 u5
   refine⟨_,rfl,t,_,_,_,rfl,rfl,pk.of (s5 _ _ ht),iF (j:=3) rfl rfl,_,rfl,?_⟩
   cases ho:pt.other with
   | none=>
    rw[ho] at r3
    cases r3
    refine DB (by rfl) ⟨_,rfl,q nf H5 s5 ?_⟩
    rw[u5]
    unfold kQ
    rw[ho]
    simp
   | some x=>
    rw[ho] at r3
    cases r3
    refine DC (by rfl) ?_
    refine⟨_,rfl,.inl ⟨rfl,_,hV.of u5⟩,_,rfl,t,_,_,_,rfl,rfl,pk.of (s5 _ _ ht),iF (j:=3) rfl rfl,?_⟩
    refine⟨nf,_,_,rfl,rfl,u5,by rw[RK,UZ,RK];omega,?_⟩
    refine⟨_,rfl,q nf _ ?_ ?_⟩
    ·exact s5.upd YU
    ·rw[b_,iK]
     unfold kQ
     rw[ho]
     rfl
def OC(A:Ad):Sp:=fun vs H Q _=>∃(d:Addr)(D:Dk)(W:Addr→Prop)(x:Str),vs=[.ref d,.str x]∧iw A H d D W∧ki x∧Small D.made∧x∉D.names∧∀H',Q (.bl true) H'
theorem FP(T:Txt mg)(O:Ok K mg A):ik P w K mg base mT 4 A.rQ A.rR ["desk","name"] (OC A):=by
 have kR:=@zR P w K mg base A T O
 have sD:=@GL P w K mg base A T O
 refine O.vB.f.q0 lh fun jx A0 outer s H vs Q E hr h=>?_
 obtain⟨d,D,W,x,rfl,X,fx,sm,hx,q⟩:=h
 obtain⟨π,y⟩:=id X
 refine⟨_,(de (kX 2 lh f_)
  (de (IU ⟨rfl,rfl,rfl⟩ O.sQ.m (by rfl) (fun σ₀ pn E' EX hp=>(fO (hG (Dz (pv 0) O.gw O.mw.t kR (hr.mono (by decide)) O.mw.b .nil hp (a_ (pv 1) e_))))) (fun e=>(fO (kX 2 lh (gm iJ (pv 2) f_)))))
  (de (IU ⟨rfl,rfl,rfl⟩ O.sQ.m (by rfl) (fun σ₀ pn E' EX hp=>(fO (hG (Dz (pv 0) O.gw O.sN.t sD (hr.mono (by decide)) O.sN.b .nil hp (a_ (pv 1) e_))))) (fun e=>(fO (kX 2 lh (gm iJ (pv 2) f_)))))
  (fO (h_ (Gj mD (pv 2) f_ (iN _))))))),?_⟩
 refine K3 ?_;intro _ _ _
 refine⟨rfl,_,rfl,d,π.dx,_,rfl,y.hd,vJ,_,rfl,d,D,W,x,rfl,X,fx,sm.many,fun _=>?_,fun h=>absurd h hx⟩
 refine⟨_,rfl,O.mx,?_⟩
 refine⟨_,rfl,_,_,rfl,rfl,?_⟩
 refine⟨rfl,_,rfl,d,π.dx,_,rfl,y.hd,Yb _ _ _,_,rfl,d,D,W,x,rfl,X,fx,sm,fun _=>?_,fun pt hp e=>absurd (aaH.mpr ⟨pt,hp,e⟩) hx⟩
 refine⟨_,rfl,O.mx,?_⟩
 refine⟨_,rfl,_,_,rfl,rfl,?_⟩
 exact⟨_,rfl,rfl,q _⟩
end
theorem zX(x:Str):∀l:List Str,Ni (.str x) (gh l)=decide (x∈l):=by
 intro l
 unfold Ni
 rw[abA,List.any_map,List.any_eq_true,decide_eq_true_iff]
 constructor
 ·rintro⟨y,hy,e⟩
  have e:(y ==x)=true:=e
  rw[←eq_of_beq e];exact hy
 ·exact fun h=>⟨x,h,by show(x ==x)=true;exact beq_self_eq_true x⟩
theorem zY{xs:List Str}{f:Str→Bool}{i:Nat}{z:Str}{zs:List Str}{b:Bool}(hz:xs[i]?=some z)(e3:zs=(xs.take i).filter f)(e:b=f z):(xs.take (i+1)).filter f=if b=true then zs++[z] else zs:=by
 rw[take_snoc hz,aaM,←e3,e]
 by_cases h:f z=true
 ·rw[aas h,XZ h,aaU]
 ·rw[aan h,aaj h,aaU,aaN]
noncomputable def NB:Str:=Str.ofString "nobody"
theorem FQ(c k:Int):nameOf c k≠NB:=by
 intro h
 have b:=mod_lt c 12 (by decide)
 have hl:=(vM c k (1+c%12).toNat).1
 have HK:(j1 c k (1+c%12).toNat).length=6:=by
  have:(nameOf c k).length=NB.length:=aa5 Str.length h
  rw[show NB.length=6 by decide+kernel] at this
  exact this
 have hc:(1+c%12).toNat=6:=hl.symm.trans HK
 have hc2:1+c%12=6:=by omega
 have at_:∀j:Nat,j<6→NB.cps.toList[j]?=some (if(j:Int)=c/12%6 then zU (k+c/144) else zU (c/144+5*(j:Int)+c/5184%2*k*7)):=fun j hj=>by
  have:=yO c k 6 j hj
  rw[hc2] at this
  have e:j1 c k 6=NB:=by have h:j1 c k (1+c%12).toNat=NB:=h;rw[hc] at h;exact h
  rw[e] at this
  exact this
 have b2:=mod_lt (c/12) 6 (by decide)
 generalize c/5184%2*k*7=Kr at at_
 have one:∀{j:Nat} {x:Nat} {i:Int},j<6→¬(j:Int)=c/12%6→NB.cps.toList[j]?=some x→zU i=x→(c/144+5*(j:Int)+Kr)%36=i%36:=fun{j x i} hj hn hx hi=>by
  have:=at_ j hj
  rw[aan hn,hx] at this
  exact BB ((aaD this).symm.trans hi.symm)
 by_cases h0:c/12%6=0∨c/12%6=1
 ·have e3:=one (j:=3) (x:=111) (i:=14) (by decide) (by omega) (by decide+kernel) (by decide+kernel)
  have e4:=one (j:=4) (x:=100) (i:=3) (by decide) (by omega) (by decide+kernel) (by decide+kernel)
  omega
 ·have e3:=one (j:=0) (x:=110) (i:=13) (by decide) (by omega) (by decide+kernel) (by decide+kernel)
  have e4:=one (j:=1) (x:=111) (i:=14) (by decide) (by omega) (by decide+kernel) (by decide+kernel)
  omega
theorem JV{x:Str}(h:x.length≤1000)(h2:x.cps.toList.all (fun c=>decide (c<1114112))=true):ki x:=GI h fun c hc=>aaB (abO.mp h2 c hc)
structure HY(H:Hp)(nd:Addr)(D:Dk)(xs:List Str)(g:Str→Addr)(kv:List (Key×V)):Prop where
 at_:H nd=some (.dK kv)
 keys:kv.map (·.1)=xs.map sk
 val:∀x∈xs,iO kv (sk x)=some (.ref (g x))∧g x≠nd∧∃(kx:List (Key×V))(lx:List Str),H (g x)=some (.dK kx)∧kx.map (·.1)=lx.map sk∧lx.Nodup∧∀y,y∈lx↔y∈D.ij x
section
variable{H H':Hp}{nd:Addr}{D:Dk}{xs:List Str}{g:Str→Addr}{kv:List (Key×V)}
theorem HY.has(h:HY H nd D xs g kv)(x:Str):(iO kv (sk x)).isSome=decide (x∈xs):=jC h.keys x
theorem HY.get(h:HY H nd D xs g kv){s:Str}(hs:s∈xs):iT H nd (.str s) (some (.ref (g s))):=by
 have:=iT.k (k:=sk s) h.at_
 rw[(h.val s hs).1] at this
 exact this
theorem HY.step(h:HY H nd D xs g kv)(s:∀b kx,H b=some (.dK kx)→H' b=some (.dK kx)):HY H' nd D xs g kv:=⟨s _ _ h.at_,h.keys,fun x hx=>by
 obtain⟨h1,h2,kx,lx,h3,h4⟩:=h.val x hx
 exact⟨h1,h2,kx,lx,s _ _ h3,h4⟩⟩
theorem HY.put{fd:Addr}{x:Str}{kf:List (Key×V)}{lf:List Str}(h:HY H nd D xs g kv)(hx:x∉xs)(hf:H fd=some (.dK kf))(qA:fd≠nd)(h1:kf.map (·.1)=lf.map sk)(h2:lf.Nodup)(h3:∀y,y∈lf↔y∈D.ij x):HY (upd H nd (.dK (putK kv (sk x) (.ref fd)))) nd D (xs++[x]) (fun t=>if t=x then fd else g t) (putK kv (sk x) (.ref fd)):=by
 refine⟨b_,nO h.keys hx _,fun t ht=>?_⟩
 rw[jY]
 by_cases e:t=x
 ·subst e
  rw[aas rfl,aas rfl]
  exact⟨rfl,qA,kf,lf,by rw[d_ qA];exact hf,h1,h2,h3⟩
 ·rw[aan (fun z=>e (ab7 z)),aan e]
  obtain⟨v1,v2,kx,lx,v3,v4⟩:=h.val t ((XX.mp ht).elim id fun z=>absurd (US.mp z) e)
  exact⟨v1,v2,kx,lx,by rw[d_ v2];exact v3,v4⟩
end
section
variable{P:Program}{w:World}{K:Qqy}{mg:Qqx}{base:Heap}{A:Ad}
def GN(K:Qqy):Sp:=fun vs H Q _=>∃(a:Addr)(ns:List Int),vs=[.ref a]∧hV K H a (ns.map V.int)∧ns.length≤63∧∀H',Q (.bl true) H'
theorem OD{f:Addr}{fd:FuncData}(F:xl K "law" "law" Bl f fd)(T:Txt mg)(O:Ok K mg A):ik P w K mg base mT 20 f fd ["script"] (GN K):=by
 have EI:=@LO P w K mg base A T O
 have jh:=@GJ P w K mg base A T O
 have pZ:=@CF P w K mg base A T O
 have yA:=@Et P w K mg base A T O
 have Ab:=@FP P w K mg base A T O
 have Ac:=@FF P w K mg base A T O
 have jN:=(@FG P w K mg base A T O).HX
 have kR:=(@zR P w K mg base A T O).HX
 have sD:=(@GL P w K mg base A T O).HX
 refine F.q0 kE fun jx A0 outer s H vs Q E hr h=>?_
 obtain⟨a,ns,rfl,ha,hn,q⟩:=h
 have sz:sizeLine=16777216:=aaC
 refine⟨_,(de (kX 1 kE (rl O.Bu EI hr (a_ (pv 0) (a_ f_ (a_ (gm iX (rl O.jJ jh hr (a_ (pv 0) (a_ f_ e_))) f_) (a_ lD e_))))))
   (de (kX 2 kE (Az (pv 1) f_))
   (de (kX 3 kE lI)
   (de (kX 4 kE (yU (pv 2) O.gw O.qu.t Ac (hr.mono (by decide)) O.qu.b .nil oC))
   (de (iC aar rfl (ie (pv 4)) (rm 5 kE) (de (lE (i:=6) kE.nd rfl (Or.inr rfl) lI)
   (de (iC aar rfl (ie (rl O.tQ yA hr (a_ (Ax (pv 2) O.gw O.sN sD hr (a_ (pv 5) e_)) (a_ (pv 5) e_)))) (rm 7 kE) (de (iE (i7 (kG (by exact iI hr) (pv 7) (pv 3))) (fO (h_ lD)) ia)
   (de (jc (by exact iI hr) (pv 6) (pv 7) lD rfl)
   (fO (sJ (iC aar rfl (uT (xp hr (pv 3) (pv 7))) (rm 8 kE) (fO (jc (by exact iI hr) (pv 6) (pv 8) lD rfl))))))))
   (de (jc (by exact iI hr) (pv 3) (pv 5) (pv 6) rfl)
   (de (kX 9 kE (Ax (pv 2) O.gw O.mw kR hr (a_ (pv 5) e_)))
   (de (iE (q8 (vU (rl O.oh pZ hr (a_ (pv 9) (a_ (p3 Gz (fZ Bl).names [12] rfl (ie (pv 4)) rfl (by decide+kernel) (fun _ _ _ _=>(iy (i:=12) kE.nd rfl (Or.inl rfl))) (fun _ _ _ _=>⟨_,l_ (i7 (mS (by exact iI hr) (pv 12) (pv 6))),by(try simp only [j6]);rfl⟩) (fun _ _ _ _=>yG (pv 12))) e_))))) (fO (h_ lD)) ia)
   (de (hG (oA aaJ aaQ aaR jW (pv 9) (a_ (pv 5) e_)))
   (fO (iE (q8 (vU (rl O.oh pZ hr (a_ (Ax (pv 2) O.gw O.mw kR hr (a_ (pv 5) e_)) (a_ (p3 Gz (fZ Bl).names [12] rfl (ie (pv 4)) rfl (by decide+kernel) (fun _ _ _ _=>(iy (i:=12) kE.nd rfl (Or.inl rfl))) (fun _ _ _ _=>⟨_,l_ (i7 (mS (by exact iI hr) (pv 12) (pv 6))),by(try simp only [j6]);rfl⟩) (fun _ _ _ _=>yG (pv 12))) e_))))) (fO (h_ lD)) ia)))))))))
   (de (iC aar rfl (ie (Az (pv 1) f_)) (rm 10 kE) (de (lE (i:=11) kE.nd rfl (Or.inr rfl) (Ax (pv 2) O.gw O.lX jN hr (a_ (pv 10) e_)))
   (de (iE (ip (Nz 9 (by exact UW hr)) (pv 11) (p3 Gz (fZ Bl).names [5] rfl (ie (pv 4)) rfl (by decide+kernel) (fun _ _ _ _=>(iy (i:=5) kE.nd rfl (Or.inl rfl))) (fun _ _ _ _=>⟨_,l_ (ip G6 (pv 5) (pv 11) rfl),by(try simp only [j6]);rfl⟩) (fun _ _ _ _=>yG (pv 5))) (iN _)) (fO (h_ lD)) ia)
   (fO (iC aar rfl (ie (pv 11)) (rm 5 kE) (fO (sJ (iC aar rfl (uT (xp hr (pv 3) (pv 5))) (rm 7 kE) (fO (iE (ip BO (pv 7) (pv 11) rfl) (fO (h_ lD)) ia))))))))))
   (fO (h_ (rl O.vB Ab hr (a_ (pv 2) (a_ (Az (i8 (a_ iV (a_ iV (a_ iV e_)))) (gm iX (rl O.jJ jh hr (a_ (pv 0) (a_ f_ e_))) f_)) e_))))))))))),?_⟩
 refine S5 ?_;intro _ _ _ _ _ _
 have b7:=mod_lt (cellAt ns 4) 17 (by decide)
 obtain⟨n,MN⟩:∃n:Nat,cellAt ns 4%17=(n:Int):=⟨_,(Int.toNat_of_nonneg b7.1).symm⟩
 refine⟨_,rfl,_,rfl,a,ns,4,rfl,ha,by decide,_,_,rfl,rfl,(by show(0:Int)<17;decide),a,ns,6,n,true,?_,ha,by omega,by decide,by decide,by omega,fun bl d ss fs D W H1 B=>?_⟩
 ·show[V.ref a,V.int 6,V.int (cellAt ns 4%17),V.bl true]=_
  rw[MN]
 have s1:=B.same
 have n7:n<17:=by omega
 have Zh:Sz 35 D:=by
  have h1:=B.sz.many
  have h2:=B.sz.ig
  have h3:=B.sz.i4
  have h4:n*n≤16*16:=Nat.mul_le_mul (by omega) (by omega)
  exact⟨by omega,by omega,by omega⟩
 have sm:=Zh.small (by decide)
 have jQ:=sm.many
 have hml:D.made.length≤35:=Zh.many
 have X1:=B.Va
 have I:=B.inv
 obtain⟨π,y⟩:=id X1
 have MO:∀x∈D.names,ki x:=fun x hx=>by
  obtain⟨j,_,e⟩:=B.names x hx
  rw[e];exact(nP _ _).AS
 have MG:D.names.length≤35:=by
  unfold Dk.names
  rw[RK];exact hml
 have Mq:∀s∈D.stores,ki s:=fun s hs=>by rw[B.stores] at hs;exact(zW s hs).AS
 refine⟨_,rfl,bl,_,_,_,rfl,rfl,hV.of B.at_,iF (j:=0) rfl rfl,?_⟩
 refine fun nd Kv=>?_
 have s2:gg H1 (upd H1 nd (.dK [])):=(gg.refl H1).new Kv
 refine⟨_,rfl,d,π.dx,_,rfl,s2 _ _ y.hd,FE,d,D,W,rfl,X1.same s2,fun nm Kw=>?_⟩
 have s3:=s2.new (o:=.lst (gh D.names)) Kw
 have u3:(upd (upd H1 nd (.dK [])) nm (.lst (gh D.names))) nm=some (.lst (gh D.names)):=b_
 have SK:(upd (upd H1 nd (.dK [])) nm (.lst (gh D.names))) nd=some (.dK []):=ix Kw b_
 generalize upd (upd H1 nd (.dK [])) nm (.lst (gh D.names))=H3 at s3 u3 SK
 dsimp only [l6];refine IV ?_;intro _
 let Jv:=fun(i:Nat) (σ:St) (H4:Hp)=>∃(v5 v6 v7 v8 v9 EJ:Option V)(g:Str→Addr)(kv:List (Key×V)),σ=[rr a,rr bl,rr d,rr nd,rr nm,v5,v6,v7,v8,v9,none,none,EJ]∧gg H1 H4∧H4 nm=some (.lst (gh D.names))∧HY H4 nd D (D.names.take i) g kv
 refine⟨_,rfl,nm,rfl,⟨_,hV.of u3⟩,iQ (K:=K) (a:=nm) (xs:=gh D.names) Jv
  ⟨none,none,none,none,none,none,fun _=>nd,[],rfl,s3,u3,SK,rfl,fun x hx=>by cases hx⟩ (by rintro _ _ _ _ ⟨_,_,_,_,_,_,_,_,_,_,e,_⟩;exact hV.of e) ?_ ?_⟩
 ·rintro i v σ H4 hi ⟨v5,v6,v7,v8,v9,EJ,g,kv,rfl,s4,F_,MP⟩
  obtain⟨x,hx,rfl⟩:=jR hi
  have L7:=hx
  unfold Dk.names at L7
  rw[aak] at L7
  obtain⟨p,hp,rfl⟩:=aaF.mp L7
  have Pg:=VI hp
  have Ka:=VI hx
  dsimp only [l6];refine S5 ?_;intro _ _ _ _ _ _
  refine fun fd Ph=>?_
  have t5:gg H4 (upd H4 fd (.dK [])):=(gg.refl H4).new Ph
  have u5:(upd H4 fd (.dK [])) fd=some (.dK []):=b_
  generalize upd H4 fd (.dK [])=H5 at t5 u5
  have s5:=s4.trans t5
  refine⟨_,rfl,d,π.dx,_,rfl,s5 _ _ y.hd,Yb _ _ _,_,rfl,d,D,W,p.nm,rfl,X1.same s5,MO _ Ka,sm,fun h=>absurd Ka h,fun pt ER ept t H6 s6 Wl rep=>?_⟩
  obtain rfl:pt=p:=Lg I.nd ER Pg ept
  have VT:pt.ig.length≤4000∧pt.i4.length≤4000:=by
   obtain⟨l1,l2,e⟩:=List.append_of_mem Pg
   have h1:=sm.ig
   have h2:=sm.i4
   rw[e,aa1,aaA,UZ,UZ] at h1 h2
   have h1:_≤4000:=h1
   have h2:_≤4000:=h2
   exact⟨by omega,by omega⟩
  refine⟨_,rfl,t,pt,rfl,rep,VT.1,VT.2,fun sl H7 s7 J4=>?_⟩
  have WV:=(t5.trans s6).trans s7
  have u7:=s7 _ _ (s6 _ _ u5)
  have SM:sl≠fd:=fun z=>by rw[z,u7] at J4;cases J4
  have SN:∀z∈kQ pt,z∈D.names.take i:=fun z hz=>by
   have h1:=(pe (I.Fv pt Pg) z).mp hz
   have h2:=I.before i pt hp z ((I.need pt Pg z).mpr ⟨z,h1,.inl rfl⟩)
   rw[List.map_take] at h2
   exact h2
  have MQ:∀{lf:List Str} {k:Nat},(∀y,y∈lf↔∃z∈(kQ pt).take k,y=z∨y∈D.ij z)→∀y∈lf,y∈D.names:=fun{lf k} h y hy=>by
   obtain⟨z,h1,h2⟩:=(h y).mp hy
   have hz:=abT (SN z (abT h1))
   rcases h2 with h2|h2
   ·rw[h2];exact hz
   ·exact I.qd hz h2
  have MR:∀{H8:Hp},(∀b o,H7 b=some o→b≠fd→H8 b=some o)→HY H8 nd D (D.names.take i) g kv:=fun{H8} e1=>MP.step fun b kx e=>e1 _ _ (WV _ _ e) fun z=>by rw[z,Ph] at e;cases e
  let Jv:=fun(j:Nat) (σ:St) (H8:Hp)=>∃(v7 v8:Option V)(kf:List (Key×V))(lf:List Str),σ=[rr a,rr bl,rr d,rr nd,rr nm,rs pt.nm,rr fd,v7,v8,v9,none,none,EJ]∧(∀b o,H7 b=some o→b≠fd→H8 b=some o)∧H8 fd=some (.dK kf)∧kf.map (·.1)=lf.map sk∧lf.Nodup∧∀y,y∈lf↔∃z∈(kQ pt).take j,y=z∨y∈D.ij z
  refine⟨sl,rfl,⟨_,hV.of J4⟩,iQ (K:=K) (a:=sl) (xs:=gh (kQ pt)) Jv
   ⟨v7,v8,[],[],rfl,fun b o e _=>e,u7,rfl,abb,fun y=>by simp⟩ (by rintro _ _ _ _ ⟨_,_,_,_,_,e,_⟩;exact hV.of (e _ _ J4 SM)) ?_ ?_⟩
  ·rintro j v σ H8 hj ⟨v7,v8,kf,lf,rfl,e1,e2,e3,e4,e5⟩
   obtain⟨z,hz,rfl⟩:=jR hj
   have SO:=SN z (VI hz)
   have Kg:=abT SO
   have yB:=MR e1
   have HP:=jk e3
   have TB:=oj e4 (MQ e5)
   refine⟨_,rfl,_,rfl,nd,_,rfl,iT.k (k:=sk z) yB.at_,?_⟩
   rw[yB.has,XU SO]
   refine⟨_,rfl,kA ?_⟩
   refine⟨_,rfl,_,rfl,fd,_,rfl,l9.k (k:=sk z) e2 (by omega),?_⟩
   obtain⟨_,gnd,kz,lz,z3,z4,z5,z6⟩:=yB.val z SO
   have WW:nd≠fd:=fun w=>by have:=MP.at_;rw[w,Ph] at this;cases this
   have gf:g z≠fd:=fun w=>by
    obtain⟨_,_,_,_,w3,_⟩:=MP.val z SO
    rw[w,Ph] at w3;cases w3
   have hg:iT (upd H8 fd (.dK (putK kf (sk z) (V.bl true)))) nd (.str z) (some (.ref (g z))):=by
    have:=iT.k (k:=sk z) (H:=upd H8 fd (.dK (putK kf (sk z) (V.bl true)))) (a:=nd) (kvs:=kv) (by rw[d_ WW];exact yB.at_)
    rw[(yB.val z SO).1] at this
    exact this
   have T7:(upd H8 fd (.dK (putK kf (sk z) (V.bl true)))) (g z)=some (.dK kz):=by rw[d_ gf];exact z3
   have f9:∀b o,H7 b=some o→b≠fd→(upd H8 fd (.dK (putK kf (sk z) (V.bl true)))) b=some o:=fun b o e n=>by rw[d_ n];exact e1 b o e n
   have u9:(upd H8 fd (.dK (putK kf (sk z) (V.bl true)))) fd=some (.dK (putK kf (sk z) (V.bl true))):=b_
   have k9:=sU e3 z (V.bl true)
   generalize putK kf (sk z) (V.bl true)=Zi at hg T7 f9 u9 k9
   generalize upd H8 fd (.dK Zi)=H9 at hg T7 f9 u9
   have SQ:∀y∈lz,y∈D.names:=fun y hy=>I.qd Kg ((z6 y).mp hy)
   refine⟨_,rfl,_,rfl,nd,.ref (g z),rfl,hg,g z,kz,rfl,T7,fun o uz=>?_⟩
   let Jv:=fun(m:Nat) (σ:St) (EB:Hp)=>∃(v8:Option V)(SR:List (Key×V))(Pj:List Str),σ=[rr a,rr bl,rr d,rr nd,rr nm,rs pt.nm,rr fd,rs z,v8,v9,none,none,EJ]∧(∀b o',H9 b=some o'→b≠fd→b≠g z→EB b=some o')∧EB (g z)=some (.mQ o (.dK kz))∧EB fd=some (.dK SR)∧SR.map (·.1)=Pj.map sk∧Pj.Nodup∧∀y,y∈Pj↔y∈zQ lf z∨y∈lz.take m
   refine za (d:=g z) (o:=o) (kvs:=kz) Jv
    ⟨v8,Zi,zQ lf z,rfl,fun b o' e _ n=>by rw[d_ n];exact e,b_,by rw[d_ gf.symm];exact u9,k9,yM e4,fun y=>by simp⟩ (by rintro _ _ _ ⟨_,_,_,_,_,e,_⟩;exact e) ?_ ?_
   ·rintro m k v σ EB hm ⟨v8,SR,Pj,rfl,c1,c2,c3,c4,c5,c6⟩
    obtain⟨Kr,WX,rfl⟩:=pY z4 hm
    have hkl2:=jk c4
    have hll2:=oj c5 fun y hy=>by
     rcases(c6 y).mp hy with w|w
     ·rcases sx.mp w with w|w
      ·exact MQ e5 y w
      ·rw[w];exact Kg
     ·exact SQ y (abT w)
    refine⟨_,rfl,_,rfl,fd,_,rfl,l9.k (k:=sk Kr) c3 (by omega),?_⟩
    refine⟨_,_,zQ Pj Kr,rfl,fun b o' e n1 n2=>by rw[d_ n1];exact c1 b o' e n1 n2,by rw[d_ gf];exact c2,b_,sU c4 Kr _,yM c5,fun y=>?_⟩
    rw[sx,c6 y,take_snoc WX,XX,US,or_assoc]
   ·rintro σ EB ⟨v8,SR,Pj,rfl,c1,c2,c3,c4,c5,c6⟩
    rw[jk z4,aaf] at c6
    refine⟨g z,o,_,c2,uz,?_⟩
    refine⟨_,_,SR,Pj,rfl,fun b o' e n=>?_,by rw[d_ gf.symm];exact c3,c4,c5,fun y=>?_⟩
    ·by_cases w:b=g z
     ·rw[w,b_]
      have:=f9 _ _ e n
      rw[w,T7] at this
      exact this
     ·rw[d_ w];exact c1 b o' (f9 _ _ e n) n w
    ·rw[c6 y,sx,e5 y,z6 y,take_snoc hz]
     constructor
     ·rintro((⟨t,ht,h⟩|h)|h)
      ·exact⟨t,aat _ ht,h⟩
      ·exact⟨z,by simp,.inl h⟩
      ·exact⟨z,by simp,.inr h⟩
     ·rintro⟨t,ht,h⟩
      rcases XX.mp ht with ht|ht
      ·exact .inl (.inl ⟨t,ht,h⟩)
      ·rw[US.mp ht] at h
       exact h.elim (fun h=>.inl (.inr h)) .inr
  rintro σ H8 ⟨v7,v8,kf,lf,rfl,e1,e2,e3,e4,e5⟩
  rw[RK,aaf] at e5
  have wV:∀y,y∈lf↔y∈D.ij pt.nm:=fun y=>by
   rw[e5 y,I.need pt Pg y]
   exact⟨fun⟨z,h1,h2⟩=>⟨z,(pe (I.Fv pt Pg) z).mp h1,h2⟩,fun⟨z,h1,h2⟩=>⟨z,(pe (I.Fv pt Pg) z).mpr h1,h2⟩⟩
  have yB:=MR e1
  have HR:pt.nm∉D.names.take i:=fun z=>by
   obtain⟨j,hj⟩:=aaP.mp z
   have FR:j<i:=by have:=(RO.mp hj).1;rw[aap] at this;omega
   rw[abD,aas FR] at hj
   have:=(abJ (RO.mp hj).1 I.nd).mp (hj.trans hx.symm)
   omega
  have JX:fd≠nd:=fun w=>by have:=MP.at_;rw[←w,Ph] at this;cases this
  have V9:=jk yB.keys
  rw[aap] at V9
  refine⟨_,rfl,_,rfl,_,rfl,nd,_,rfl,l9.k (k:=sk pt.nm) yB.at_ (by omega),?_⟩
  have Pk:=yB.put HR e2 JX e3 e4 wV
  rw[←take_snoc hx] at Pk
  have e9:(upd H8 nd (.dK (putK kv (sk pt.nm) (.ref fd)))) fd=some (.dK kf):=by rw[d_ JX];exact e2
  have s9:gg H1 (upd H8 nd (.dK (putK kv (sk pt.nm) (.ref fd)))):=fun b o e=>by
   rw[d_ (fun w=>by rw[w,Kv] at e;cases e)]
   exact e1 _ _ (WV _ _ (s4 _ _ e)) fun w=>by rw[w] at e;have:=s4 _ _ e;rw[Ph] at this;cases this
  have HU:(upd H8 nd (.dK (putK kv (sk pt.nm) (.ref fd)))) nm=some (.lst (gh D.names)):=by
   rw[d_ (fun w=>by have:=MP.at_;rw[←w,F_] at this;cases this)]
   exact e1 _ _ (WV _ _ F_) fun w=>by rw[w,Ph] at F_;cases F_
  generalize upd H8 nd (.dK (putK kv (sk pt.nm) (.ref fd)))=H9 at Pk e9 s9 HU
  refine⟨_,rfl,d,π.dx,_,rfl,s9 _ _ y.hd,vJ,_,rfl,d,D,W,pt.nm,rfl,X1.same s9,MO _ Ka,jQ,fun h=>absurd Ka h,fun _ tl J9=>?_⟩
  have SS:gg H9 (upd H9 tl (.lst (gh (D.jz pt.nm)))):=(gg.refl _).new J9
  have WY:(upd H9 tl (.lst (gh (D.jz pt.nm)))) tl=some (.lst (gh (D.jz pt.nm))):=b_
  have htl0:H1 tl=none:=s9.free J9
  generalize upd H9 tl (.lst (gh (D.jz pt.nm)))=EB at SS WY
  have J3:∀z,(iO kf (sk z)).isSome=decide (z∈D.ij pt.nm):=fun z=>by rw[jC e3];simp only [wV]
  let Jv:=fun(j:Nat) (ys:List V) (σ:St) (G:Hp)=>∃(EJ:Option V)(zs:List Str),σ=[rr a,rr bl,rr d,rr nd,rr nm,rs pt.nm,rr fd,v7,v8,rr tl,none,none,EJ]∧G=EB∧ys=gh zs∧zs=(D.names.take j).filter fun y=>decide (y∈D.ij pt.nm)
  refine⟨_,rfl,_,rfl,nm,rfl,⟨_,hV.of (SS _ _ HU)⟩,jE (K:=K) (a:=nm) (xs:=gh D.names) (by rw[RK];omega) Jv
   ⟨none,[],rfl,rfl,rfl,rfl⟩ (by rintro _ _ _ _ _ ⟨_,zs,_,e,e2,e3⟩;rw[e,e2,e3];exact⟨hV.of (SS _ _ HU),by rw[RK];exact aad (aaI _ _) (by rw[aap];omega)⟩) ?_ ?_⟩
  ·rintro j v ys σ G hj ⟨EJ,zs,rfl,rfl,rfl,e3⟩
   obtain⟨z,hz,rfl⟩:=jR hj
   have put:=fun b e=>zY (f:=fun y=>decide (y∈D.ij pt.nm)) (b:=b) hz e3 e
   refine⟨_,rfl,_,rfl,fd,_,rfl,iT.k (k:=sk z) (SS _ _ e9),?_⟩
   rw[J3]
   refine⟨_,rfl,kI (fun hb=>?_) (fun hb=>?_)⟩
   ·exact⟨_,rfl,_,_,rfl,rfl,iK _ _,(put true hb.symm).symm⟩
   ·exact⟨_,_,rfl,rfl,rfl,(put false (abc.mpr hb).symm).symm⟩
  rintro ys σ EB ⟨EJ,zs,rfl,rfl,rfl,e3⟩ cl EN
  rw[RK,aaf] at e3
  have e3:zs=D.jz pt.nm:=e3
  subst e3
  have T8:gg EB (upd EB cl (.lst (gh (D.jz pt.nm)))):=(gg.refl _).new EN
  refine⟨tl,cl,_,_,rfl,T8 _ _ WY,b_,?_⟩
  rw[XU rfl]
  refine⟨_,rfl,kA ?_⟩
  have WZ:=T8 _ _ WY
  have SU:=SS.trans T8
  have tU:H9 tl=none:=J9
  generalize upd EB cl (.lst (gh (D.jz pt.nm)))=WN at T8 WZ SU
  refine⟨_,rfl,.inl ⟨rfl,_,hV.of WZ⟩,_,rfl,?_⟩
  refine⟨tl,_,_,rfl,rfl,WZ,by rw[RK];have:=aaI (fun y=>decide (y∈D.ij pt.nm)) D.names;unfold Dk.jz;omega,?_⟩
  have W0:gg H9 (upd WN tl (.lst (gh (D.jz pt.nm)++[V.str pt.nm]))):=SU.upd tU
  generalize upd WN tl (.lst (gh (D.jz pt.nm)++[V.str pt.nm]))=W3 at W0
  have CJ:=s9.trans W0
  refine⟨_,rfl,d,π.dx,_,rfl,CJ _ _ y.hd,vJ,_,rfl,d,D,W,pt.nm,rfl,X1.same CJ,MO _ Ka,jQ,fun h=>absurd Ka h,fun _ tm htm=>?_⟩
  have SV:gg H9 (upd W3 tm (.lst (gh (D.jz pt.nm)))):=W0.new htm
  have Zj:(upd W3 tm (.lst (gh (D.jz pt.nm)))) tm=some (.lst (gh (D.jz pt.nm))):=b_
  generalize upd W3 tm (.lst (gh (D.jz pt.nm)))=T9 at SV Zj
  let Jv:=fun(j:Nat) (ys:List V) (σ:St) (G:Hp)=>∃(EJ:Option V)(zs:List Str),σ=[rr a,rr bl,rr d,rr nd,rr nm,rs pt.nm,rr fd,v7,v8,rr tl,none,none,EJ]∧G=T9∧ys=gh zs∧zs=(D.names.take j).filter fun y=>decide (y∈D.ij pt.nm)
  refine⟨_,rfl,nm,rfl,⟨_,hV.of (SV _ _ HU)⟩,jE (K:=K) (a:=nm) (xs:=gh D.names) (by rw[RK];omega) Jv
   ⟨none,[],rfl,rfl,rfl,rfl⟩ (by rintro _ _ _ _ _ ⟨_,zs,_,e,e2,e3⟩;rw[e,e2,e3];exact⟨hV.of (SV _ _ HU),by rw[RK];exact aad (aaI _ _) (by rw[aap];omega)⟩) ?_ ?_⟩
  ·rintro j v ys σ G hj ⟨EJ,zs,rfl,rfl,rfl,e3⟩
   obtain⟨z,hz,rfl⟩:=jR hj
   have put:=fun b e=>zY (f:=fun y=>decide (y∈D.ij pt.nm)) (b:=b) hz e3 e
   refine⟨_,rfl,_,rfl,fd,_,rfl,iT.k (k:=sk z) (SV _ _ e9),?_⟩
   rw[J3]
   refine⟨_,rfl,kI (fun hb=>?_) (fun hb=>?_)⟩
   ·exact⟨_,rfl,_,_,rfl,rfl,iK _ _,(put true hb.symm).symm⟩
   ·exact⟨_,_,rfl,rfl,rfl,(put false (abc.mpr hb).symm).symm⟩
  rintro ys σ T9 ⟨EJ,zs,rfl,rfl,rfl,e3⟩ cm MA
  rw[RK,aaf] at e3
  have e3:zs=D.jz pt.nm:=e3
  subst e3
  have Zk:gg T9 (upd T9 cm (.lst (gh (D.jz pt.nm)))):=(gg.refl _).new MA
  refine⟨tm,cm,_,_,rfl,Zk _ _ Zj,b_,?_⟩
  rw[XU rfl]
  have Pl:=SV.trans Zk
  exact⟨_,rfl,kA ⟨_,_,_,_,_,_,_,_,rfl,s9.trans Pl,Pl _ _ HU,Pk.step fun b kx e=>Pl _ _ e⟩⟩
 rintro σ H4 ⟨v5,v6,v7,v8,v9,EJ,g,kv,rfl,s4,F_,MP⟩
 rw[RK,aaf] at MP
 have X4:=X1.same s4
 dsimp only [l6];refine IV ?_;intro _
 let Jv:=fun(i:Nat) (σ:St) (H5:Hp)=>∃(v5 v7 v10 v11:Option V),σ=[rr a,rr bl,rr d,rr nd,rr nm,v5,v6,v7,v8,v9,v10,v11,EJ]∧gg H4 H5
 refine⟨_,rfl,bl,_,_,_,rfl,rfl,hV.of (s4 _ _ B.at_),iF (j:=1) rfl rfl,ss,rfl,⟨_,hV.of (s4 _ _ B.st)⟩,iQ (K:=K) (a:=ss) (xs:=gh (vV ns)) Jv
  ⟨v5,v7,none,none,rfl,gg.refl _⟩ (by rintro _ _ _ _ ⟨_,_,_,_,_,e⟩;exact hV.of (e _ _ (s4 _ _ B.st))) ?_ ?_⟩
 ·rintro i v σ H5 hi ⟨v5,v7,v10,v11,rfl,s5⟩
  obtain⟨so,WS,rfl⟩:=jR hi
  have HS:so∈D.stores:=by rw[B.stores];exact VI WS
  have L6:=s4.trans s5
  refine⟨_,rfl,d,π.dx,_,rfl,L6 _ _ y.hd,sv,_,rfl,d,D,W,so,rfl,X1.same L6,Mq so HS,jQ,fun h=>absurd HS h,fun _ hl WD=>?_⟩
  have t6:=s5.new (o:=.lst (gh (D.has so))) WD
  have u6:(upd H5 hl (.lst (gh (D.has so)))) hl=some (.lst (gh (D.has so))):=b_
  generalize upd H5 hl (.lst (gh (D.has so)))=H6 at t6 u6
  let Jv:=fun(j:Nat) (ys:List V) (σ:St) (G:Hp)=>∃(u5:Option V)(zs:List Str),σ=[rr a,rr bl,rr d,rr nd,rr nm,u5,v6,v7,v8,v9,rs so,rr hl,EJ]∧G=H6∧ys=gh zs∧zs=(D.names.take j).filter fun y=>decide (y∈D.has so)
  refine⟨_,rfl,_,rfl,nm,rfl,⟨_,hV.of (t6 _ _ F_)⟩,jE (K:=K) (a:=nm) (xs:=gh D.names) (by rw[RK];omega) Jv
   ⟨none,[],rfl,rfl,rfl,rfl⟩ (by rintro _ _ _ _ _ ⟨_,zs,_,e,e2,e3⟩;rw[e,e2,e3];exact⟨hV.of (t6 _ _ F_),by rw[RK];exact aad (aaI _ _) (by rw[aap];omega)⟩) ?_ ?_⟩
  ·rintro j v ys σ G hj ⟨u5',zs,rfl,rfl,rfl,e3⟩
   obtain⟨z,hz,rfl⟩:=jR hj
   have put:=fun b e=>zY (f:=fun y=>decide (y∈D.has so)) (b:=b) hz e3 e
   refine⟨_,rfl,_,rfl,hl,_,rfl,.inl (hV.of u6),rfl,by simp[gh,lH],_,rfl,kI (fun hb=>?_) (fun hb=>?_)⟩
   ·have hb:Ni (.str z) (gh (D.has so))=true:=hb
    rw[zX] at hb
    exact⟨_,rfl,_,_,rfl,rfl,iK _ _,(put true hb.symm).symm⟩
   ·have hb:¬Ni (.str z) (gh (D.has so))=true:=hb
    rw[zX] at hb
    exact⟨_,_,rfl,rfl,rfl,(put false (abc.mpr hb).symm).symm⟩
  rintro ys σ H6 ⟨u5',zs,rfl,rfl,rfl,e3⟩ cl EN
  rw[RK,aaf] at e3
  have e3:zs=D.has so:=by
   rw[e3]
   unfold Dk.has
   exact List.filter_congr fun y hy=>by simp[aaq,hy]
  subst e3
  have t7:gg H6 (upd H6 cl (.lst (gh (D.has so)))):=(gg.refl _).new EN
  refine⟨_,⟨hl,cl,rfl,rfl⟩,Cz (hV.of (t7 _ _ u6)) (hV.of b_),?_⟩
  rw[XU rfl]
  refine⟨_,rfl,kA ?_⟩
  have u7:=t7 _ _ u6
  have W4:=t6.trans t7
  generalize upd H6 cl (.lst (gh (D.has so)))=H7 at t7 u7 W4
  dsimp only [Mb];refine UX ?_;intro _
  let Jv:=fun(j:Nat) (σ:St) (H8:Hp)=>∃(v5 v7:Option V),σ=[rr a,rr bl,rr d,rr nd,rr nm,v5,v6,v7,v8,v9,rs so,rr hl,EJ]∧gg H7 H8
  refine⟨_,rfl,hl,rfl,⟨_,hV.of u7⟩,iQ (K:=K) (a:=hl) (xs:=gh (D.has so)) Jv
   ⟨v5,v7,rfl,gg.refl _⟩ (by rintro _ _ _ _ ⟨_,_,_,e⟩;exact hV.of (e _ _ u7)) ?_ ?_⟩
  ·rintro j v σ H8 hj ⟨v5,v7,rfl,s8⟩
   obtain⟨x,hx,rfl⟩:=jR hj
   have T_:=aaq.mp (VI hx)
   have Pm:=aaB T_.2
   have yB:=MP.step fun b kx e=>s8 _ _ (W4 _ _ e)
   obtain⟨_,_,kx,lx,h3,h4,h5,h6⟩:=yB.val x T_.1
   have u8:=s8 _ _ u7
   refine⟨_,rfl,_,rfl,nd,.ref (g x),rfl,yB.get T_.1,g x,kx,rfl,h3,fun o uz=>?_⟩
   have hlg:hl≠g x:=fun w=>by rw[w,h3] at u8;cases u8
   let Jv:=fun(m:Nat) (σ:St) (G:Hp)=>∃(v7:Option V),σ=[rr a,rr bl,rr d,rr nd,rr nm,rs x,v6,v7,v8,v9,rs so,rr hl,EJ]∧G=upd H8 (g x) (.mQ o (.dK kx))
   refine za (d:=g x) (o:=o) (kvs:=kx) Jv ⟨v7,rfl,rfl⟩ (by rintro _ _ _ ⟨_,_,e⟩;rw[e];exact b_) ?_ ?_
   ·rintro m k v σ G hm ⟨v7,rfl,rfl⟩
    obtain⟨z,hz,rfl⟩:=pY h4 hm
    have Kg:=(h6 z).mp (VI hz)
    have TV:z∈D.has so:=aaq.mpr ⟨I.qd T_.1 Kg,XU ((I.ly so HS x Pm).2 z Kg)⟩
    refine⟨_,rfl,_,rfl,hl,_,rfl,.inl (hV.of (by rw[d_ hlg];exact u8)),rfl,by simp[gh,lH],_,rfl,?_⟩
    exact DB (by show(!Ni (.str z) (gh (D.has so)))=false;rw[zX,XU TV];rfl) ⟨_,rfl,rfl⟩
   ·rintro σ G ⟨v7,rfl,rfl⟩
    refine⟨g x,o,_,b_,uz,?_⟩
    rw[sL h3]
    exact⟨_,_,rfl,s8⟩
  ·rintro σ H8 ⟨v5,v7,rfl,s8⟩
   exact⟨_,_,_,_,rfl,W4.trans s8⟩
 rintro σ H5 ⟨v5,v7,v10,v11,rfl,s5⟩
 have TY:=s4.trans s5
 have bX:=mod_lt (cellAt ns 5) 3 (by decide)
 obtain⟨x,ex,hx⟩:=pick (xs:=[Str.ofString "",NB,Str.ofString "-"]) bX.1 bX.2
 have Zl:ki x∧x∉D.names:=by
  have ng:¬Good x∨x=NB:=by
   simp only [XW,abE,or_false] at hx
   rcases hx with rfl|rfl|rfl
   ·exact .inl fun z=>absurd z.1 (by decide+kernel)
   ·exact .inr rfl
   ·exact .inl fun z=>absurd (z.2.2 45 (by decide+kernel)) (by decide+kernel)
  refine⟨?_,fun hm=>?_⟩
  ·simp only [XW,abE,or_false] at hx
   rcases hx with rfl|rfl|rfl<;>exact JV (by decide+kernel) (by decide+kernel)
  ·obtain⟨j,_,e⟩:=B.names x hm
   rcases ng with z|z
   ·exact z (by rw[e];exact nP _ _)
   ·exact FQ _ _ (e.symm.trans z)
 refine⟨_,rfl,L2.jQ,fun l hl=>?_⟩
 have t6:=TY.new (o:=.lst [V.str (Str.ofString ""),V.str (Str.ofString "nobody"),V.str (Str.ofString "-")]) hl
 exact⟨_,rfl,a,ns,5,rfl,qz ha (s1.trans t6),by decide,_,_,rfl,rfl,(by show(0:Int)<3;decide),l,_,_,_,rfl,rfl,hV.of b_,ex,d,D,W,x,rfl,X1.same t6,Zl.1,sm,Zl.2,q⟩
end
end PK
namespace TW
open PySem PySem.W L2 PK
noncomputable section
noncomputable abbrev S:=Str.ofString
noncomputable abbrev ob:=Obj.mk
noncomputable abbrev v(x:String)(t:Nat):Value:=.str (S x) t
noncomputable abbrev r:=Value.ref
noncomputable abbrev vi:=Value.int
noncomputable abbrev i(n:Int):=Value.int n 0
noncomputable abbrev vn:=Value.none
noncomputable abbrev w:=Value.type
noncomputable abbrev b:=Value.builtin
noncomputable abbrev vl:=Value.bool
noncomputable abbrev cl:=ClassData.mk
noncomputable abbrev k:=@some Value
noncomputable abbrev d(P:Params)(x:String)(t:Nat)(y:Value):DictEntry:=.mk (PyData.keyHash P (S x)) (v x t) y
noncomputable abbrev x:=top
noncomputable abbrev y(i j:Nat):=inClass (top i) j
noncomputable abbrev n:=BT.node
noncomputable abbrev z:=BT.nil
noncomputable abbrev f(o:Obj):BT:=n o z z
noncomputable abbrev of(c:String)(l:List Value):Obj:=ob (w c) none (.fields l.toArray) #[]
noncomputable abbrev tp(l:List Value):Obj:=ob (w "tuple") none (.seq l.toArray 0) #[]
noncomputable abbrev fl(l:List Value):Obj:=ob vn none (.fields l.toArray) #[]
noncomputable abbrev l3(l:List (Int×Int×Addr)):Obj:=fl (l.flatMap fun(a,b,c)=>[i a,i b,r c])
noncomputable abbrev fd(n q:Str)(st:Stmt)(g:Addr)(c:List (Str×Addr))(d kd doc pm:Value)(an:Option Addr)(co ct:Value)(b:Addr):FuncData:=⟨n,q,oB st,.stmts (k8 st),fZ st,g,c,d,kd,doc,pm,an,co,ct,b⟩
noncomputable abbrev fn(a b:String)(st:Stmt)(m:String)(t:Nat)(c:Addr):Obj:=ob (w "function") none (.func (fd (S a) (S b) st 3 [] vn vn vn (v m t) none (r c) vn 0)) #[]
noncomputable abbrev fv(a b:String)(st:Stmt):Obj:=ob vn none (.func (fd (S a) (S b) st 0 [] vn vn vn vn none vn vn 0)) #[]
noncomputable abbrev dt(l:List DictEntry)(c:Nat):Obj:=ob (w "dict") none (.dict l.toArray c) #[]
noncomputable abbrev fr(l:List (Option Value)):Obj:=ob (w "frame") none .plain l.toArray
noncomputable abbrev ty(c:ClassData)(l:List (Option Value)):Obj:=ob (w "type") none (.cls c) l.toArray
noncomputable abbrev o0:Addr→Value|0=>vn|a+1=>r (a+1)
noncomputable abbrev co(a b:String)(t:Nat)(l p q:Int)(c:Addr)(g:Int)(ys:List Addr)(u:Nat):Obj:=of "code" ([v a t,v b (t+1),v "/claim/cut.py" (t+2),i l,i p,i 0,i 0,i q,r c,vl true,i g]++ys.map o0++[i u,i l,v "/claim/cut.py" (u+1)])
noncomputable def gZ(P:Params):List DictEntry:=[(d P "__doc__" 166 vn),(d P "__package__" 167 vn),(d P "__loader__" 168 (b "__main__.__loader__#opaque")),(d P "__spec__" 169 vn),(d P "__annotations__" 170 (r 6)),(d P "__builtins__" 171 (r 4)),(d P "__file__" 173 (v "/claim/cut.py" 172)),(d P "__cached__" 174 vn),(d P "_wall" 193 (r 21)),(d P "counts_with" 206 (r 28)),(d P "most_pairs" 212 (r 33)),(d P "place_from" 222 (r 40)),(d P "kept" 235 (r 47)),(d P "PatchError" 255 (r 57))]
def g0(P:Params):List DictEntry:=gZ P++[(d P "BadName" 271 (r 70))]
def g1(P:Params):List DictEntry:=g0 P++[(d P "NameTaken" 287 (r 82))]
def g2(P:Params):List DictEntry:=g1 P++[(d P "NoStore" 303 (r 94))]
def g3(P:Params):List DictEntry:=g2 P++[(d P "NoPatch" 319 (r 106))]
def g4(P:Params):List DictEntry:=g3 P++[(d P "NoLine" 335 (r 118))]
def g5(P:Params):List DictEntry:=g4 P++[(d P "Unsettled" 351 (r 130))]
def g6(P:Params):List DictEntry:=g5 P++[(d P "Same" 367 (r 142))]
def g7(P:Params):List DictEntry:=g6 P++[(d P "Leant" 383 (r 154))]
def g8(P:Params):List DictEntry:=g7 P++[(d P "Line" 420 (r 173))]
def g9(P:Params):List DictEntry:=g8 P++[(d P "Patch" 457 (r 194)),(d P "lines_named_by" 463 (r 203)),(d P "leans_straight_on" 469 (r 208)),(d P "live_patches" 479 (r 215)),(d P "lines_put" 489 (r 222)),(d P "standing_lines" 495 (r 227)),(d P "files_with_lines" 501 (r 232))]
def ha(P:Params):List DictEntry:=g9 P++[(d P "straight_ahead" 510 (r 239)),(d P "joined" 520 (r 246)),(d P "all_ahead" 526 (r 251)),(d P "first_free" 534 (r 258)),(d P "row_of" 540 (r 263))]
def hb(P:Params):List DictEntry:=ha P++[(d P "Sight" 604 (r 308)),(d P "NAME_SIGNS" 608 (v "abcdefghijklmnopqrstuvwxyz0123456789" 607)),(d P "LONGEST_NAME" 610 (vi 12 609))]
def hc(P:Params):List DictEntry:=hb P++[(d P "check_name" 618 (r 319)),(d P "check_places" 628 (r 326)),(d P "kept_behind" 638 (r 333)),(d P "new_lines" 652 (r 340)),(d P "changing_patch" 658 (r 345))]
def hd(P:Params):List DictEntry:=hc P++[(d P "Desk" 859 (r 500))]
def he(P:Params):List DictEntry:=hd P++[(d P "_law_cell_at" 869 (r 511)),(d P "_law_draw" 879 (r 518)),(d P "_law_name" 893 (r 525)),(d P "_law_text" 899 (r 530)),(d P "_law_edit" 913 (r 537)),(d P "_law_deed" 919 (r 542)),(d P "_law_desk" 925 (r 547)),(d P "_law_names_are" 934 (r 554)),(d P "_law_straight" 940 (r 559)),(d P "_law_refused" 949 (r 566)),(d P "law" 955 (r 571))]
def aa:Obj:=tp []
def ab:Obj:=fl []
def ac:Obj:=of "builtin_function_or_method" [(b "type.__prepare__"),(w "type")]
def ad:Obj:=tp [(r 57)]
def ae:Obj:=of "code" [(v "<module>" 182),(v "<module>" 183),(v "/claim/cut.py" 184),(i 1),(i 0),(i 0),(i 0),(i 0),(r 11),(vl false),(i 181),(r 12),vn,vn,vn,vn,(i 185),(i 1),(v "/claim/cut.py" 186)]
def af:Obj:=fr [(k (r 13)),(k (r 3)),(k (r 3)),none,(k (v "__main__" 164)),none,(k (r 0))]
noncomputable def ag:Obj:=fn "kept" "kept" (x 5) "patchkin.differ" 194 46
def ah:Obj:=co "place_from" "place_from" 213 18 3 3 34 181 [35,0,36,37,38] 220
def ai:Obj:=co "counts_with" "counts_with" 196 5 3 3 22 181 [23,0,24,25,26] 204
noncomputable def aj:Obj:=tp [(v "old" 226),(v "new" 227),(v "table" 228),(v "pairs" 229),(v "start" 230),(v "first" 231),(v "second" 232)]
def ak:Obj:=tp [(v "k" 190)]
def al:Obj:=fn "most_pairs" "most_pairs" (x 3) "patchkin.differ" 194 32
def am:Obj:=fn "_wall" "_wall" (x 0) "__main__" 164 20
def an:Obj:=co "most_pairs" "most_pairs" 207 13 2 3 29 181 [30,0,0,0,31] 210
def ao:Obj:=tp [(w "ValueError")]
def ap:Obj:=tp [(v "text" 199),(v "new" 200),(v "below" 201),(v "counts" 202),(v "second" 203)]
def aq:Obj:=fn "place_from" "place_from" (x 4) "patchkin.differ" 194 39
def ar(P:Params):Obj:=dt [(d P "__module__" 245 (v "patchkin.errors" 236)),(d P "__firstlineno__" 249 (vi 34 248)),(d P "__static_attributes__" 250 (r 55)),(d P "__weakref__" 252 (r 58)),(d P "__doc__" 253 vn)] 3
def au:Obj:=co "_wall" "_wall" 187 1 1 3 15 181 [16,0,17,18,19] 191
noncomputable def av:Obj:=tp [(v "texts" 216),(v "text" 217),(v "start" 218),(v "place" 219)]
def aw:Obj:=fn "counts_with" "counts_with" (x 2) "patchkin.differ" 194 27
def ax:Obj:=of "getset_descriptor" [(v "__weakref__" 251),(r 57),(b "ExceptionGroup.__weakref__"),vn]
noncomputable def ay:Obj:=co "kept" "kept" 223 23 2 3 41 181 [42,0,43,44,45] 233
def az:Obj:=fv "most_pairs" "most_pairs" (x 3)
def aA:Obj:=fv "_wall" "_wall" (x 0)
def aB:Obj:=of "super" [(r 57),(r 57),(r 57)]
def aC(P:Params):Obj:=dt [(d P "__module__" 263 (v "patchkin.errors" 236)),(d P "__firstlineno__" 267 (vi 36 266)),(d P "__static_attributes__" 268 (r 68)),(d P "__doc__" 269 vn)] 2
def aD:Obj:=of "code" [(v "PatchError" 240),(v "PatchError" 241),(v "/claim/cut.py" 242),(i 34),(i 0),(i 0),(i 0),(i 0),(r 51),(vl false),(i 181),(r 52),vn,vn,vn,vn,(i 243),(i 34),(v "/claim/cut.py" 244)]
noncomputable def aE:Obj:=fv "kept" "kept" (x 5)
def aF:Obj:=of "builtin_function_or_method" [(b "object.__init_subclass__"),(r 57)]
def aG(P:Params):Obj:=dt [(d P "__module__" 245 (v "patchkin.errors" 236)),(d P "__qualname__" 247 (v "PatchError" 246)),(d P "__firstlineno__" 249 (vi 34 248)),(d P "__static_attributes__" 250 (r 55))] 4
def aH:Obj:=fv "counts_with" "counts_with" (x 2)
def aI:Obj:=fv "place_from" "place_from" (x 4)
def aJ:Obj:=ty (cl (S "BadName") [(r 57)] [(r 70),(r 57),(w "ValueError"),(w "Exception"),(w "BaseException"),(w "object")] 69 (S "BadName") true [] [] false none false) [(k (r 61)),none,(k (v "BadName" 256)),(k (v "BadName" 264)),(k (b "ValueError.__new__")),(k (vl true))]
def aK:Obj:=fr [(k (r 53)),(k (r 3)),(k (r 50)),none,(k (v "patchkin.errors" 236)),none,(k (r 0))]
def aL(P:Params):Obj:=dt [(d P "__module__" 263 (v "patchkin.errors" 236)),(d P "__qualname__" 265 (v "BadName" 264)),(d P "__firstlineno__" 267 (vi 36 266)),(d P "__static_attributes__" 268 (r 68))] 4
def aM:Obj:=of "super" [(r 70),(r 70),(r 70)]
def aN:Obj:=fr [(k (r 66)),(k (r 3)),(k (r 63)),none,(k (v "patchkin.errors" 236)),none,(k (r 0))]
def aO(P:Params):Obj:=dt [(d P "__module__" 279 (v "patchkin.errors" 236)),(d P "__firstlineno__" 283 (vi 38 282)),(d P "__static_attributes__" 284 (r 80)),(d P "__doc__" 285 vn)] 2
def aP:Obj:=of "builtin_function_or_method" [(b "object.__init_subclass__"),(r 70)]
def aQ:Obj:=of "code" [(v "BadName" 258),(v "BadName" 259),(v "/claim/cut.py" 260),(i 36),(i 0),(i 0),(i 0),(i 0),(r 64),(vl false),(i 181),(r 65),vn,vn,vn,vn,(i 261),(i 36),(v "/claim/cut.py" 262)]
def aR:Obj:=ty (cl (S "NameTaken") [(r 57)] [(r 82),(r 57),(w "ValueError"),(w "Exception"),(w "BaseException"),(w "object")] 81 (S "NameTaken") true [] [] false none false) [(k (r 73)),none,(k (v "NameTaken" 272)),(k (v "NameTaken" 280)),(k (b "ValueError.__new__")),(k (vl true))]
def aS:Obj:=fr [(k (r 78)),(k (r 3)),(k (r 75)),none,(k (v "patchkin.errors" 236)),none,(k (r 0))]
def aT:Obj:=of "super" [(r 82),(r 82),(r 82)]
def aU(P:Params):Obj:=dt [(d P "__module__" 279 (v "patchkin.errors" 236)),(d P "__qualname__" 281 (v "NameTaken" 280)),(d P "__firstlineno__" 283 (vi 38 282)),(d P "__static_attributes__" 284 (r 80))] 4
def aV(P:Params):Obj:=dt [(d P "__module__" 295 (v "patchkin.errors" 236)),(d P "__firstlineno__" 299 (vi 40 298)),(d P "__static_attributes__" 300 (r 92)),(d P "__doc__" 301 vn)] 2
def aW:Obj:=of "builtin_function_or_method" [(b "object.__init_subclass__"),(r 82)]
def aX:Obj:=of "code" [(v "NameTaken" 274),(v "NameTaken" 275),(v "/claim/cut.py" 276),(i 38),(i 0),(i 0),(i 0),(i 0),(r 76),(vl false),(i 181),(r 77),vn,vn,vn,vn,(i 277),(i 38),(v "/claim/cut.py" 278)]
def aY:Obj:=ty (cl (S "NoStore") [(r 57)] [(r 94),(r 57),(w "ValueError"),(w "Exception"),(w "BaseException"),(w "object")] 93 (S "NoStore") true [] [] false none false) [(k (r 85)),none,(k (v "NoStore" 288)),(k (v "NoStore" 296)),(k (b "ValueError.__new__")),(k (vl true))]
def aZ:Obj:=of "super" [(r 94),(r 94),(r 94)]
def a0(P:Params):Obj:=dt [(d P "__module__" 295 (v "patchkin.errors" 236)),(d P "__qualname__" 297 (v "NoStore" 296)),(d P "__firstlineno__" 299 (vi 40 298)),(d P "__static_attributes__" 300 (r 92))] 4
def a1:Obj:=fr [(k (r 90)),(k (r 3)),(k (r 87)),none,(k (v "patchkin.errors" 236)),none,(k (r 0))]
def a2(P:Params):Obj:=dt [(d P "__module__" 311 (v "patchkin.errors" 236)),(d P "__firstlineno__" 315 (vi 42 314)),(d P "__static_attributes__" 316 (r 104)),(d P "__doc__" 317 vn)] 2
def a3:Obj:=of "builtin_function_or_method" [(b "object.__init_subclass__"),(r 94)]
def a4:Obj:=ty (cl (S "NoPatch") [(r 57)] [(r 106),(r 57),(w "ValueError"),(w "Exception"),(w "BaseException"),(w "object")] 105 (S "NoPatch") true [] [] false none false) [(k (r 97)),none,(k (v "NoPatch" 304)),(k (v "NoPatch" 312)),(k (b "ValueError.__new__")),(k (vl true))]
def a5:Obj:=of "code" [(v "NoStore" 290),(v "NoStore" 291),(v "/claim/cut.py" 292),(i 40),(i 0),(i 0),(i 0),(i 0),(r 88),(vl false),(i 181),(r 89),vn,vn,vn,vn,(i 293),(i 40),(v "/claim/cut.py" 294)]
def a6:Obj:=fr [(k (r 102)),(k (r 3)),(k (r 99)),none,(k (v "patchkin.errors" 236)),none,(k (r 0))]
def a7(P:Params):Obj:=dt [(d P "__module__" 311 (v "patchkin.errors" 236)),(d P "__qualname__" 313 (v "NoPatch" 312)),(d P "__firstlineno__" 315 (vi 42 314)),(d P "__static_attributes__" 316 (r 104))] 4
def a8:Obj:=of "super" [(r 106),(r 106),(r 106)]
def a9(P:Params):Obj:=dt [(d P "__module__" 327 (v "patchkin.errors" 236)),(d P "__firstlineno__" 331 (vi 44 330)),(d P "__static_attributes__" 332 (r 116)),(d P "__doc__" 333 vn)] 2
def ba:Obj:=of "builtin_function_or_method" [(b "object.__init_subclass__"),(r 106)]
def bb:Obj:=of "code" [(v "NoPatch" 306),(v "NoPatch" 307),(v "/claim/cut.py" 308),(i 42),(i 0),(i 0),(i 0),(i 0),(r 100),(vl false),(i 181),(r 101),vn,vn,vn,vn,(i 309),(i 42),(v "/claim/cut.py" 310)]
def bc:Obj:=ty (cl (S "NoLine") [(r 57)] [(r 118),(r 57),(w "ValueError"),(w "Exception"),(w "BaseException"),(w "object")] 117 (S "NoLine") true [] [] false none false) [(k (r 109)),none,(k (v "NoLine" 320)),(k (v "NoLine" 328)),(k (b "ValueError.__new__")),(k (vl true))]
def bd(P:Params):Obj:=dt [(d P "__module__" 327 (v "patchkin.errors" 236)),(d P "__qualname__" 329 (v "NoLine" 328)),(d P "__firstlineno__" 331 (vi 44 330)),(d P "__static_attributes__" 332 (r 116))] 4
def be:Obj:=of "super" [(r 118),(r 118),(r 118)]
def bf:Obj:=fr [(k (r 114)),(k (r 3)),(k (r 111)),none,(k (v "patchkin.errors" 236)),none,(k (r 0))]
def bg(P:Params):Obj:=dt [(d P "__module__" 343 (v "patchkin.errors" 236)),(d P "__firstlineno__" 347 (vi 46 346)),(d P "__static_attributes__" 348 (r 128)),(d P "__doc__" 349 vn)] 2
def bh:Obj:=of "builtin_function_or_method" [(b "object.__init_subclass__"),(r 118)]
def bi:Obj:=ty (cl (S "Unsettled") [(r 57)] [(r 130),(r 57),(w "ValueError"),(w "Exception"),(w "BaseException"),(w "object")] 129 (S "Unsettled") true [] [] false none false) [(k (r 121)),none,(k (v "Unsettled" 336)),(k (v "Unsettled" 344)),(k (b "ValueError.__new__")),(k (vl true))]
def bj:Obj:=of "code" [(v "NoLine" 322),(v "NoLine" 323),(v "/claim/cut.py" 324),(i 44),(i 0),(i 0),(i 0),(i 0),(r 112),(vl false),(i 181),(r 113),vn,vn,vn,vn,(i 325),(i 44),(v "/claim/cut.py" 326)]
def bk:Obj:=fr [(k (r 126)),(k (r 3)),(k (r 123)),none,(k (v "patchkin.errors" 236)),none,(k (r 0))]
def bl:Obj:=of "super" [(r 130),(r 130),(r 130)]
def bm(P:Params):Obj:=dt [(d P "__module__" 343 (v "patchkin.errors" 236)),(d P "__qualname__" 345 (v "Unsettled" 344)),(d P "__firstlineno__" 347 (vi 46 346)),(d P "__static_attributes__" 348 (r 128))] 4
def bn(P:Params):Obj:=dt [(d P "__module__" 359 (v "patchkin.errors" 236)),(d P "__firstlineno__" 363 (vi 48 362)),(d P "__static_attributes__" 364 (r 140)),(d P "__doc__" 365 vn)] 2
def bo:Obj:=of "builtin_function_or_method" [(b "object.__init_subclass__"),(r 130)]
def bp:Obj:=ty (cl (S "Same") [(r 57)] [(r 142),(r 57),(w "ValueError"),(w "Exception"),(w "BaseException"),(w "object")] 141 (S "Same") true [] [] false none false) [(k (r 133)),none,(k (v "Same" 352)),(k (v "Same" 360)),(k (b "ValueError.__new__")),(k (vl true))]
def bq:Obj:=of "code" [(v "Unsettled" 338),(v "Unsettled" 339),(v "/claim/cut.py" 340),(i 46),(i 0),(i 0),(i 0),(i 0),(r 124),(vl false),(i 181),(r 125),vn,vn,vn,vn,(i 341),(i 46),(v "/claim/cut.py" 342)]
def br:Obj:=of "super" [(r 142),(r 142),(r 142)]
def bs(P:Params):Obj:=dt [(d P "__module__" 359 (v "patchkin.errors" 236)),(d P "__qualname__" 361 (v "Same" 360)),(d P "__firstlineno__" 363 (vi 48 362)),(d P "__static_attributes__" 364 (r 140))] 4
def bt:Obj:=fr [(k (r 138)),(k (r 3)),(k (r 135)),none,(k (v "patchkin.errors" 236)),none,(k (r 0))]
def bu:Obj:=of "builtin_function_or_method" [(b "object.__init_subclass__"),(r 142)]
def bv:Obj:=of "code" [(v "Same" 354),(v "Same" 355),(v "/claim/cut.py" 356),(i 48),(i 0),(i 0),(i 0),(i 0),(r 136),(vl false),(i 181),(r 137),vn,vn,vn,vn,(i 357),(i 48),(v "/claim/cut.py" 358)]
def bw:Obj:=ty (cl (S "PatchError") [(w "ValueError")] [(r 57),(w "ValueError"),(w "Exception"),(w "BaseException"),(w "object")] 56 (S "PatchError") true [] [(r 70),(r 82),(r 94),(r 106),(r 118),(r 130),(r 142),(r 154)] false none false) [(k (r 48)),none,(k (v "PatchError" 238)),(k (v "PatchError" 246)),(k (b "ValueError.__new__")),(k (vl true))]
def bx(P:Params):Obj:=dt [(d P "__module__" 375 (v "patchkin.errors" 236)),(d P "__firstlineno__" 379 (vi 50 378)),(d P "__static_attributes__" 380 (r 152)),(d P "__doc__" 381 vn)] 2
def bz:Obj:=ty (cl (S "Leant") [(r 57)] [(r 154),(r 57),(w "ValueError"),(w "Exception"),(w "BaseException"),(w "object")] 153 (S "Leant") true [] [] false none false) [(k (r 145)),none,(k (v "Leant" 368)),(k (v "Leant" 376)),(k (b "ValueError.__new__")),(k (vl true))]
def bA:Obj:=of "getset_descriptor" [(v "__weakref__" 416),(r 173),(b "ExceptionGroup.__weakref__"),vn]
def bB:Obj:=fr [(k (r 150)),(k (r 3)),(k (r 147)),none,(k (v "patchkin.errors" 236)),none,(k (r 0))]
def bC(P:Params):Obj:=dt [(d P "__module__" 375 (v "patchkin.errors" 236)),(d P "__qualname__" 377 (v "Leant" 376)),(d P "__firstlineno__" 379 (vi 50 378)),(d P "__static_attributes__" 380 (r 152))] 4
def bD:Obj:=tp [(v "lower_name" 409),(v "name" 410),(v "text" 411),(v "upper_name" 412)]
def bE:Obj:=of "super" [(r 154),(r 154),(r 154)]
def bF:Obj:=co "__init__" "Line.__init__" 398 55 5 3 164 181 [165,0,166,167,168] 406
def bG:Obj:=ty (cl (S "Line") [(w "object")] [(r 173),(w "object")] 172 (S "Line") true [] [] false none false) [none,none,(k (v "Line" 386)),(k (v "Line" 394)),(k (b "object.__new__")),(k (vl true))]
def bH(P:Params):Obj:=dt [(d P "__module__" 393 (v "patchkin.order" 384)),(d P "__firstlineno__" 397 (vi 53 396)),(d P "__init__" 408 (r 170)),(d P "__static_attributes__" 413 (r 171)),(d P "__dict__" 415 (r 174)),(d P "__weakref__" 417 (r 175)),(d P "__doc__" 418 vn)] 4
def bI:Obj:=of "builtin_function_or_method" [(b "object.__init_subclass__"),(r 154)]
def bJ:Obj:=fn "__init__" "Line.__init__" (y 17 0) "patchkin.order" 384 169
def bK:Obj:=tp [(v "self" 401),(v "name" 402),(v "text" 403),(v "upper_name" 404),(v "lower_name" 405)]
def bL:Obj:=of "code" [(v "Leant" 370),(v "Leant" 371),(v "/claim/cut.py" 372),(i 50),(i 0),(i 0),(i 0),(i 0),(r 148),(vl false),(i 181),(r 149),vn,vn,vn,vn,(i 373),(i 50),(v "/claim/cut.py" 374)]
def bM:Obj:=of "getset_descriptor" [(v "__dict__" 414),(r 173),(b "function.__dict__"),(b "function.__dict__#set")]
def bN:Obj:=fn "__init__" "Patch.__init__" (y 18 0) "patchkin.order" 384 190
def bO(P:Params):Obj:=dt [(d P "__module__" 393 (v "patchkin.order" 384)),(d P "__qualname__" 395 (v "Line" 394)),(d P "__firstlineno__" 397 (vi 53 396)),(d P "__init__" 408 (r 170)),(d P "__static_attributes__" 413 (r 171))] 5
def bP:Obj:=co "leans_straight_on" "leans_straight_on" 464 74 1 3 204 181 [205,0,0,0,206] 467
def bQ:Obj:=co "files_with_lines" "files_with_lines" 496 101 1 3 228 181 [229,0,0,0,230] 499
def bR:Obj:=fn "live_patches" "live_patches" (x 21) "patchkin.order" 384 214
def bS:Obj:=of "getset_descriptor" [(v "__dict__" 451),(r 194),(b "function.__dict__"),(b "function.__dict__#set")]
def bT:Obj:=fr [(k (r 162)),(k (r 3)),(k (r 159)),none,(k (v "patchkin.order" 384)),none,(k (r 0))]
def bU:Obj:=fn "standing_lines" "standing_lines" (x 23) "patchkin.order" 384 226
noncomputable def bV:Obj:=tp [(v "patches" 473),(v "taken_back" 474),(v "live" 475),(v "patch" 476)]
def bW:Obj:=fn "lines_named_by" "lines_named_by" (x 19) "patchkin.order" 384 202
def bX:Obj:=tp [(v "self" 436),(v "name" 437),(v "file" 438),(v "puts" 439),(v "cuts" 440),(v "other" 441)]
def bY(P:Params):Obj:=dt [(d P "__module__" 428 (v "patchkin.order" 384)),(d P "__firstlineno__" 432 (vi 60 431)),(d P "__init__" 444 (r 191)),(d P "__static_attributes__" 450 (r 192)),(d P "__dict__" 452 (r 195)),(d P "__weakref__" 454 (r 196)),(d P "__doc__" 455 vn)] 4
def bZ:Obj:=l3 [(55,4,169)]
def b0:Obj:=of "builtin_function_or_method" [(b "object.__init_subclass__"),(r 173)]
def b1:Obj:=co "lines_put" "lines_put" 480 88 2 3 216 181 [217,0,218,219,220] 487
def b2:Obj:=tp [(v "cuts" 445),(v "file" 446),(v "name" 447),(v "other" 448),(v "puts" 449)]
def b3:Obj:=fn "leans_straight_on" "leans_straight_on" (x 20) "patchkin.order" 384 207
def b4:Obj:=of "super" [(r 173),(r 173),(r 173)]
def b5:Obj:=fv "__init__" "Line.__init__" (y 17 0)
def b6:Obj:=fn "files_with_lines" "files_with_lines" (x 24) "patchkin.order" 384 231
def b7:Obj:=of "getset_descriptor" [(v "__weakref__" 453),(r 194),(b "ExceptionGroup.__weakref__"),vn]
def b8:Obj:=ty (cl (S "Patch") [(w "object")] [(r 194),(w "object")] 193 (S "Patch") true [] [] false none false) [none,none,(k (v "Patch" 421)),(k (v "Patch" 429)),(k (b "object.__new__")),(k (vl true))]
def b9:Obj:=of "code" [(v "Line" 388),(v "Line" 389),(v "/claim/cut.py" 390),(i 53),(i 0),(i 0),(i 0),(i 0),(r 160),(vl false),(i 181),(r 161),vn,vn,vn,vn,(i 391),(i 53),(v "/claim/cut.py" 392)]
def ca:Obj:=co "standing_lines" "standing_lines" 490 94 2 3 223 181 [224,0,0,0,225] 493
def cb:Obj:=co "lines_named_by" "lines_named_by" 458 68 1 3 199 181 [200,0,0,0,201] 461
def cc:Obj:=tp [(v "patches" 483),(v "file" 484),(v "lines" 485),(v "patch" 486)]
def cd:Obj:=co "live_patches" "live_patches" 470 79 1 3 209 181 [210,0,211,212,213] 477
def ce:Obj:=fn "lines_put" "lines_put" (x 22) "patchkin.order" 384 221
def cf:Obj:=co "__init__" "Patch.__init__" 433 62 6 3 185 181 [186,0,187,188,189] 442
def cg:Obj:=fn "straight_ahead" "straight_ahead" (x 25) "patchkin.order" 384 238
def ch:Obj:=fn "row_of" "row_of" (x 29) "patchkin.order" 384 262
def ci:Obj:=of "code" [(v "Patch" 423),(v "Patch" 424),(v "/claim/cut.py" 425),(i 60),(i 0),(i 0),(i 0),(i 0),(r 181),(vl false),(i 181),(r 182),vn,vn,vn,vn,(i 426),(i 60),(v "/claim/cut.py" 427)]
def cj:Obj:=tp [(v "lines" 505),(v "straight" 506),(v "line" 507)]
def ck:Obj:=fn "all_ahead" "all_ahead" (x 27) "patchkin.order" 384 250
def cm:Obj:=co "first_free" "first_free" 527 136 1 3 252 181 [253,0,254,255,256] 532
def cn:Obj:=fv "standing_lines" "standing_lines" (x 23)
def cp:Obj:=fv "lines_named_by" "lines_named_by" (x 19)
def cq:Obj:=of "super" [(r 194),(r 194),(r 194)]
def cr:Obj:=fv "live_patches" "live_patches" (x 21)
def cs:Obj:=co "joined" "joined" 511 114 2 3 240 181 [241,0,242,243,244] 518
def ct:Obj:=fv "__init__" "Patch.__init__" (y 18 0)
def cu:Obj:=fr [(k (r 183)),(k (r 3)),(k (r 180)),none,(k (v "patchkin.order" 384)),none,(k (r 0))]
def cv(P:Params):Obj:=dt [(d P "__module__" 428 (v "patchkin.order" 384)),(d P "__qualname__" 430 (v "Patch" 429)),(d P "__firstlineno__" 432 (vi 60 431)),(d P "__init__" 444 (r 191)),(d P "__static_attributes__" 450 (r 192))] 5
def cw:Obj:=fv "lines_put" "lines_put" (x 22)
def cx:Obj:=fn "first_free" "first_free" (x 28) "patchkin.order" 384 257
noncomputable def cy:Obj:=tp [(v "names" 514),(v "ahead" 515),(v "found" 516),(v "name" 517)]
def cz:Obj:=co "all_ahead" "all_ahead" 521 120 1 3 247 181 [248,0,0,0,249] 524
def cA:Obj:=co "row_of" "row_of" 535 141 2 3 259 181 [260,0,0,0,261] 538
def cB:Obj:=of "builtin_function_or_method" [(b "object.__init_subclass__"),(r 194)]
def cC:Obj:=fv "files_with_lines" "files_with_lines" (x 24)
def cD:Obj:=l3 [(62,4,190)]
def cE:Obj:=fn "joined" "joined" (x 26) "patchkin.order" 384 245
def cF:Obj:=fv "leans_straight_on" "leans_straight_on" (x 20)
def cG:Obj:=co "straight_ahead" "straight_ahead" 502 104 1 3 233 181 [234,0,235,236,237] 508
def cH:Obj:=tp [(v "waiting" 530),(v "name" 531)]
def cI:Obj:=fv "all_ahead" "all_ahead" (x 27)
def cJ:Obj:=fv "row_of" "row_of" (x 29)
def cK:Obj:=fv "straight_ahead" "straight_ahead" (x 25)
def cL:Obj:=fv "first_free" "first_free" (x 28)
def cM:Obj:=fv "joined" "joined" (x 26)
def cN:Obj:=tp [(v "self" 574),(v "pairs" 575),(v "first" 576),(v "second" 577)]
def cO:Obj:=fn "quarrelling" "Sight.quarrelling" (y 30 2) "patchkin.order" 384 290
def cP(P:Params):Obj:=dt [(d P "__module__" 548 (v "patchkin.order" 384)),(d P "__firstlineno__" 552 (vi 156 551)),(d P "__init__" 561 (r 277)),(d P "is_ahead" 570 (r 284)),(d P "quarrelling" 580 (r 291)),(d P "most_from" 587 (r 298)),(d P "staying" 594 (r 305)),(d P "__static_attributes__" 597 (r 306)),(d P "__dict__" 599 (r 309)),(d P "__weakref__" 601 (r 310)),(d P "__doc__" 602 vn)] 4
def cQ:Obj:=co "is_ahead" "Sight.is_ahead" 562 162 3 3 278 181 [279,0,280,281,282] 568
def cR:Obj:=tp [(v "self" 556),(v "patches" 557),(v "file" 558)]
def cS:Obj:=fn "staying" "Sight.staying" (y 30 4) "patchkin.order" 384 304
def cT:Obj:=co "most_from" "Sight.most_from" 581 173 1 3 292 181 [293,0,294,295,296] 585
def cU:Obj:=fn "__init__" "Sight.__init__" (y 30 0) "patchkin.order" 384 276
def cV:Obj:=of "getset_descriptor" [(v "__dict__" 598),(r 308),(b "function.__dict__"),(b "function.__dict__#set")]
def cW:Obj:=tp [(v "self" 591)]
def cX:Obj:=co "staying" "Sight.staying" 588 176 1 3 299 181 [300,0,301,302,303] 592
def cY:Obj:=tp [(v "self" 565),(v "first" 566),(v "second" 567)]
def cZ:Obj:=co "__init__" "Sight.__init__" 553 158 3 3 271 181 [272,0,273,274,275] 559
def c0:Obj:=ty (cl (S "Sight") [(w "object")] [(r 308),(w "object")] 307 (S "Sight") true [] [] false none false) [none,none,(k (v "Sight" 541)),(k (v "Sight" 549)),(k (b "object.__new__")),(k (vl true))]
def c1:Obj:=fn "is_ahead" "Sight.is_ahead" (y 30 1) "patchkin.order" 384 283
def c2:Obj:=co "quarrelling" "Sight.quarrelling" 571 165 1 3 285 181 [286,0,287,288,289] 578
def c3:Obj:=tp [(v "ahead" 595),(v "lines" 596)]
def c4:Obj:=fn "most_from" "Sight.most_from" (y 30 3) "patchkin.order" 384 297
def c5:Obj:=tp [(v "self" 584)]
def c6:Obj:=of "getset_descriptor" [(v "__weakref__" 600),(r 308),(b "ExceptionGroup.__weakref__"),vn]
def c7:Obj:=fn "check_name" "check_name" (x 34) "patchkin.desk" 605 318
def c8:Obj:=fv "staying" "Sight.staying" (y 30 4)
def c9:Obj:=of "super" [(r 308),(r 308),(r 308)]
def da:Obj:=fv "__init__" "Sight.__init__" (y 30 0)
def db:Obj:=co "new_lines" "new_lines" 639 198 3 3 334 181 [335,0,336,337,338] 650
def dc:Obj:=tp [(v "name" 614),(v "sign" 615)]
def df:Obj:=fv "quarrelling" "Sight.quarrelling" (y 30 2)
def dg:Obj:=tp [(v "kept_names" 632),(v "size" 633),(v "behind" 634),(v "place" 635)]
def dh:Obj:=fn "changing_patch" "changing_patch" (x 38) "patchkin.desk" 605 344
def di:Obj:=co "check_places" "check_places" 619 187 2 3 320 181 [321,0,322,323,324] 626
def dj:Obj:=of "code" [(v "Sight" 543),(v "Sight" 544),(v "/claim/cut.py" 545),(i 156),(i 0),(i 0),(i 0),(i 0),(r 267),(vl false),(i 181),(r 268),vn,vn,vn,vn,(i 546),(i 156),(v "/claim/cut.py" 547)]
def dk:Obj:=fn "kept_behind" "kept_behind" (x 36) "patchkin.desk" 605 332
def dl:Obj:=tp [(v "patch" 642),(v "texts" 643),(v "kept_names" 644),(v "behind" 645),(v "lines" 646),(v "upper_name" 647),(v "place" 648),(v "text" 649)]
def dm:Obj:=fv "most_from" "Sight.most_from" (y 30 3)
def dn:Obj:=co "changing_patch" "changing_patch" 653 209 4 3 341 181 [342,0,0,0,343] 656
def dp:Obj:=of "builtin_function_or_method" [(b "object.__init_subclass__"),(r 308)]
def dq:Obj:=fn "new_lines" "new_lines" (x 37) "patchkin.desk" 605 339
def dr:Obj:=l3 [(158,4,276),(162,4,283),(165,4,290),(173,4,297),(176,4,304)]
def ds:Obj:=co "kept_behind" "kept_behind" 629 193 2 3 327 181 [328,0,329,330,331] 636
def du:Obj:=tp [(v "places" 622),(v "size" 623),(v "least" 624),(v "place" 625)]
def dv(P:Params):Obj:=dt [(d P "__module__" 548 (v "patchkin.order" 384)),(d P "__qualname__" 550 (v "Sight" 549)),(d P "__firstlineno__" 552 (vi 156 551)),(d P "__init__" 561 (r 277)),(d P "is_ahead" 570 (r 284)),(d P "quarrelling" 580 (r 291)),(d P "most_from" 587 (r 298)),(d P "staying" 594 (r 305)),(d P "__static_attributes__" 597 (r 306))] 9
def dw:Obj:=fv "is_ahead" "Sight.is_ahead" (y 30 1)
def dx:Obj:=fn "check_places" "check_places" (x 35) "patchkin.desk" 605 325
def dy:Obj:=fr [(k (r 269)),(k (r 3)),(k (r 266)),none,(k (v "patchkin.order" 384)),none,(k (r 0))]
def dz:Obj:=co "check_name" "check_name" 611 181 1 3 313 181 [314,0,315,316,317] 616
def dA:Obj:=fv "changing_patch" "changing_patch" (x 38)
def dB:Obj:=fv "kept_behind" "kept_behind" (x 36)
def dC:Obj:=fv "check_name" "check_name" (x 34)
def dD:Obj:=fv "check_places" "check_places" (x 35)
def dE:Obj:=fv "new_lines" "new_lines" (x 37)
def dF:Obj:=co "told" "Desk.told" 750 287 2 3 420 181 [421,0,0,0,422] 753
def dG:Obj:=fn "__init__" "Desk.__init__" (y 39 0) "patchkin.desk" 605 358
noncomputable def dH:Obj:=fn "take" "Desk.take" (y 39 8) "patchkin.desk" 605 406
noncomputable def dI:Obj:=fn "leans" "Desk.leans" (y 39 10) "patchkin.desk" 605 418
def dJ:Obj:=tp [(v "self" 674)]
def dK:Obj:=fn "cut" "Desk.cut" (y 39 6) "patchkin.desk" 605 394
def dL:Obj:=co "patches" "Desk.patches" 693 233 1 3 374 181 [375,0,376,377,378] 697
noncomputable def dM:Obj:=fn "has" "Desk.has" (y 39 4) "patchkin.desk" 605 384
def dN:Obj:=co "back" "Desk.back" 718 259 4 3 396 181 [397,0,398,399,400] 725
def dO:Obj:=tp [(v "self" 689)]
def dP:Obj:=co "record" "Desk.record" 706 240 5 3 386 181 [387,0,0,0,388] 709
def dQ:Obj:=fn "stores" "Desk.stores" (y 39 2) "patchkin.desk" 605 372
noncomputable def dR:Obj:=co "begin" "Desk.begin" 678 224 2 3 360 181 [361,0,362,363,364] 683
noncomputable def dS:Obj:=co "drop" "Desk.drop" 734 275 3 3 408 181 [409,0,410,411,412] 741
noncomputable def dT:Obj:=co "has" "Desk.has" 700 236 2 3 381 181 [382,0,0,0,383] 703
def dU:Obj:=fn "told" "Desk.told" (y 39 11) "patchkin.desk" 605 423
def dV:Obj:=tp [(v "self" 696)]
def dW:Obj:=co "stores" "Desk.stores" 686 230 1 3 367 181 [368,0,369,370,371] 690
def dX:Obj:=fn "patches" "Desk.patches" (y 39 3) "patchkin.desk" 605 379
noncomputable def dY:Obj:=co "leans" "Desk.leans" 744 283 2 3 415 181 [416,0,0,0,417] 747
def dZ:Obj:=fn "back" "Desk.back" (y 39 7) "patchkin.desk" 605 401
def d0:Obj:=co "cut" "Desk.cut" 712 250 5 3 391 181 [392,0,0,0,393] 715
def d1:Obj:=tp [(v "self" 681),(v "store" 682)]
def d2:Obj:=tp [(v "self" 737),(v "store" 738),(v "patch" 739),(v "name" 740)]
def d3:Obj:=fn "record" "Desk.record" (y 39 5) "patchkin.desk" 605 389
def d4:Obj:=co "__init__" "Desk.__init__" 671 219 1 3 353 181 [354,0,355,356,357] 675
noncomputable def d5:Obj:=co "take" "Desk.take" 728 265 4 3 403 181 [404,0,0,0,405] 731
def d6:Obj:=tp [(v "self" 721),(v "store" 722),(v "patch" 723),(v "other" 724)]
noncomputable def d7:Obj:=fn "begin" "Desk.begin" (y 39 1) "patchkin.desk" 605 365
noncomputable def d8:Obj:=fn "drop" "Desk.drop" (y 39 9) "patchkin.desk" 605 413
noncomputable def d9:Obj:=fv "has" "Desk.has" (y 39 4)
def ea:Obj:=of "code" [(v "Desk" 661),(v "Desk" 662),(v "/claim/cut.py" 663),(i 217),(i 0),(i 0),(i 0),(i 0),(r 349),(vl false),(i 181),(r 350),vn,vn,vn,vn,(i 664),(i 217),(v "/claim/cut.py" 665)]
def eb:Obj:=tp [(v "self" 822),(v "store" 823),(v "patch" 824)]
def ec:Obj:=fn "files" "Desk.files" (y 39 12) "patchkin.desk" 605 430
def ed:Obj:=fn "patches_of" "Desk.patches_of" (y 39 16) "patchkin.desk" 605 454
def ee:Obj:=tp [(v "self" 773),(v "store" 774),(v "file" 775)]
def ef:Obj:=fn "check_held" "Desk.check_held" (y 39 20) "patchkin.desk" 605 482
def eg:Obj:=co "row" "Desk.row" 764 296 3 3 432 181 [433,0,0,0,434] 767
def eh:Obj:=fv "stores" "Desk.stores" (y 39 2)
noncomputable def ei(P:Params):Obj:=dt [(d P "__module__" 666 (v "patchkin.desk" 605)),(d P "__firstlineno__" 670 (vi 217 669)),(d P "__init__" 677 (r 359)),(d P "begin" 685 (r 366)),(d P "stores" 692 (r 373)),(d P "patches" 699 (r 380)),(d P "has" 705 (r 385)),(d P "record" 711 (r 390)),(d P "cut" 717 (r 395)),(d P "back" 727 (r 402)),(d P "take" 733 (r 407)),(d P "drop" 743 (r 414)),(d P "leans" 749 (r 419)),(d P "told" 755 (r 424)),(d P "files" 763 (r 431)),(d P "row" 769 (r 436)),(d P "quarrels" 778 (r 443)),(d P "stay" 787 (r 450)),(d P "patches_of" 793 (r 455)),(d P "sight_of" 802 (r 462)),(d P "check_store" 810 (r 469)),(d P "check_made" 818 (r 476)),(d P "check_held" 827 (r 483)),(d P "check_new" 837 (r 490)),(d P "keep" 848 (r 497)),(d P "__static_attributes__" 852 (r 498)),(d P "__dict__" 854 (r 501)),(d P "__weakref__" 856 (r 502)),(d P "__doc__" 857 vn)] 4
def ej:Obj:=tp [(v "self" 759),(v "store" 760)]
def ek:Obj:=co "check_made" "Desk.check_made" 811 315 2 3 470 181 [471,0,472,473,474] 816
def el:Obj:=fn "quarrels" "Desk.quarrels" (y 39 14) "patchkin.desk" 605 442
def em:Obj:=co "stay" "Desk.stay" 779 302 3 3 444 181 [445,0,446,447,448] 785
noncomputable def en:Obj:=fv "leans" "Desk.leans" (y 39 10)
def eo:Obj:=tp [(v "self" 806),(v "store" 807)]
noncomputable def ep:Obj:=fn "keep" "Desk.keep" (y 39 22) "patchkin.desk" 605 496
def eq:Obj:=fv "cut" "Desk.cut" (y 39 6)
def er:Obj:=co "check_new" "Desk.check_new" 828 323 3 3 484 181 [485,0,486,487,488] 835
def es:Obj:=fv "__init__" "Desk.__init__" (y 39 0)
noncomputable def et:Obj:=fv "take" "Desk.take" (y 39 8)
def eu:Obj:=fn "check_store" "Desk.check_store" (y 39 18) "patchkin.desk" 605 468
def ev:Obj:=of "getset_descriptor" [(v "__dict__" 853),(r 500),(b "function.__dict__"),(b "function.__dict__#set")]
def ew:Obj:=co "sight_of" "Desk.sight_of" 794 308 3 3 456 181 [457,0,458,459,460] 800
def ex:Obj:=tp [(v "self" 841),(v "store" 842),(v "patch" 843),(v "needs" 844),(v "name" 845)]
def ey:Obj:=fr [(k (r 351)),(k (r 3)),(k (r 348)),none,(k (v "patchkin.desk" 605)),none,(k (r 0))]
def ez:Obj:=fv "back" "Desk.back" (y 39 7)
noncomputable def eA:Obj:=co "keep" "Desk.keep" 838 329 3 3 491 181 [492,0,493,494,495] 846
def eB:Obj:=tp [(v "self" 814),(v "patch" 815)]
def eC:Obj:=fv "record" "Desk.record" (y 39 5)
def eD:Obj:=co "check_store" "Desk.check_store" 803 311 2 3 463 181 [464,0,465,466,467] 808
def eE:Obj:=fn "row" "Desk.row" (y 39 13) "patchkin.desk" 605 435
def eF:Obj:=ty (cl (S "Desk") [(w "object")] [(r 500),(w "object")] 499 (S "Desk") true [] [] false none false) [none,none,(k (v "Desk" 659)),(k (v "Desk" 667)),(k (b "object.__new__")),(k (vl true))]
noncomputable def eG:Obj:=fv "begin" "Desk.begin" (y 39 1)
noncomputable def eH:Obj:=fv "drop" "Desk.drop" (y 39 9)
def eI:Obj:=fn "check_made" "Desk.check_made" (y 39 19) "patchkin.desk" 605 475
def eJ:Obj:=fn "stay" "Desk.stay" (y 39 15) "patchkin.desk" 605 449
def eK:Obj:=co "check_held" "Desk.check_held" 819 319 3 3 477 181 [478,0,479,480,481] 825
def eL:Obj:=tp [(v "held" 849),(v "made" 850),(v "needs" 851)]
def eM:Obj:=tp [(v "self" 797),(v "store" 798),(v "file" 799)]
def eN:Obj:=fn "check_new" "Desk.check_new" (y 39 21) "patchkin.desk" 605 489
def eO:Obj:=co "quarrels" "Desk.quarrels" 770 299 3 3 437 181 [438,0,439,440,441] 776
def eP:Obj:=fv "patches" "Desk.patches" (y 39 3)
def eQ:Obj:=co "patches_of" "Desk.patches_of" 788 305 2 3 451 181 [452,0,0,0,453] 791
def eR:Obj:=fv "told" "Desk.told" (y 39 11)
def eS:Obj:=tp [(v "self" 831),(v "patch" 832),(v "files" 833),(v "name" 834)]
def eT:Obj:=of "getset_descriptor" [(v "__weakref__" 855),(r 500),(b "ExceptionGroup.__weakref__"),vn]
def eU:Obj:=fn "sight_of" "Desk.sight_of" (y 39 17) "patchkin.desk" 605 461
def eV:Obj:=co "files" "Desk.files" 756 293 2 3 425 181 [426,0,427,428,429] 761
def eW:Obj:=tp [(v "self" 782),(v "store" 783),(v "file" 784)]
def eX(P:Params):Obj:=dt ((d P "__name__" 165 (v "law_patchkin_k06_what_a_patch_leans_on" 860))::he P) 56
def eY:Obj:=fn "_law_cell_at" "_law_cell_at" (x 41) "law_patchkin_k06_what_a_patch_leans_on" 860 510
def eZ:Obj:=fn "_law_straight" "_law_straight" (x 49) "law_patchkin_k06_what_a_patch_leans_on" 860 558
noncomputable def e0:Obj:=fv "keep" "Desk.keep" (y 39 22)
def e1:Obj:=of "super" [(r 500),(r 500),(r 500)]
def e2:Obj:=fn "_law_desk" "_law_desk" (x 47) "law_patchkin_k06_what_a_patch_leans_on" 860 546
def e3:Obj:=fv "check_store" "Desk.check_store" (y 39 18)
def e4:Obj:=fn "law" "law" (x 51) "law_patchkin_k06_what_a_patch_leans_on" 860 570
def e5:Obj:=tp [(v "script" 865),(v "k" 866)]
def e6:Obj:=fv "check_held" "Desk.check_held" (y 39 20)
def e7:Obj:=co "_law_text" "_law_text" 894 358 1 3 526 181 [527,0,0,0,528] 897
def e8:Obj:=tp [(v "cell" 883),(v "k" 884),(v "signs" 885),(v "size" 886),(v "base" 887),(v "far" 888),(v "found" 889),(v "j" 890)]
def e9:Obj:=co "_law_names_are" "_law_names_are" 926 413 2 3 548 181 [549,0,550,551,552] 932
def fa:Obj:=fn "_law_edit" "_law_edit" (x 45) "law_patchkin_k06_what_a_patch_leans_on" 860 536
def fb:Obj:=fv "quarrels" "Desk.quarrels" (y 39 14)
def fc:Obj:=co "_law_draw" "_law_draw" 870 342 3 3 512 181 [513,0,514,515,516] 877
def fe:Obj:=fv "patches_of" "Desk.patches_of" (y 39 16)
def ff:Obj:=tp [(v "texts" 903),(v "cell" 904),(v "at" 905),(v "line" 906),(v "more" 907),(v "way" 908),(v "out" 909),(v "turned" 910)]
def fg:Obj:=co "_law_refused" "_law_refused" 941 428 2 3 560 181 [561,0,562,563,564] 947
def fh:Obj:=fn "_law_name" "_law_name" (x 43) "law_patchkin_k06_what_a_patch_leans_on" 860 524
def fi:Obj:=fv "files" "Desk.files" (y 39 12)
def fj:Obj:=co "_law_deed" "_law_deed" 914 382 6 3 538 181 [539,0,0,0,540] 917
def fk:Obj:=fv "stay" "Desk.stay" (y 39 15)
def fm:Obj:=fv "check_new" "Desk.check_new" (y 39 21)
def fo:Obj:=co "_law_edit" "_law_edit" 900 366 2 3 531 181 [532,0,533,534,535] 911
def fp:Obj:=of "builtin_function_or_method" [(b "object.__init_subclass__"),(r 500)]
def fq:Obj:=co "_law_name" "_law_name" 880 346 2 3 519 181 [520,0,521,522,523] 891
def fs:Obj:=fv "sight_of" "Desk.sight_of" (y 39 17)
noncomputable def ft(P:Params):Obj:=dt [(d P "__module__" 666 (v "patchkin.desk" 605)),(d P "__qualname__" 668 (v "Desk" 667)),(d P "__firstlineno__" 670 (vi 217 669)),(d P "__init__" 677 (r 359)),(d P "begin" 685 (r 366)),(d P "stores" 692 (r 373)),(d P "patches" 699 (r 380)),(d P "has" 705 (r 385)),(d P "record" 711 (r 390)),(d P "cut" 717 (r 395)),(d P "back" 727 (r 402)),(d P "take" 733 (r 407)),(d P "drop" 743 (r 414)),(d P "leans" 749 (r 419)),(d P "told" 755 (r 424)),(d P "files" 763 (r 431)),(d P "row" 769 (r 436)),(d P "quarrels" 778 (r 443)),(d P "stay" 787 (r 450)),(d P "patches_of" 793 (r 455)),(d P "sight_of" 802 (r 462)),(d P "check_store" 810 (r 469)),(d P "check_made" 818 (r 476)),(d P "check_held" 827 (r 483)),(d P "check_new" 837 (r 490)),(d P "keep" 848 (r 497)),(d P "__static_attributes__" 852 (r 498))] 27
def fu:Obj:=tp [(v "cell" 873),(v "k" 874),(v "bound" 875),(v "stir" 876)]
def fw:Obj:=co "_law_desk" "_law_desk" 920 401 4 3 543 181 [544,0,0,0,545] 923
def fx:Obj:=fn "_law_text" "_law_text" (x 44) "law_patchkin_k06_what_a_patch_leans_on" 860 529
def fy:Obj:=tp [(v "desk" 944),(v "name" 945),(v "count" 946)]
def fz:Obj:=fv "row" "Desk.row" (y 39 13)
def fA:Obj:=fn "_law_names_are" "_law_names_are" (x 48) "law_patchkin_k06_what_a_patch_leans_on" 860 553
def fB:Obj:=fv "check_made" "Desk.check_made" (y 39 19)
def fC:Obj:=co "law" "law" 950 439 1 3 567 181 [568,0,0,0,569] 953
def fD:Obj:=fn "_law_draw" "_law_draw" (x 42) "law_patchkin_k06_what_a_patch_leans_on" 860 517
def fE:Obj:=tp [(v "found" 929),(v "due" 930),(v "name" 931)]
def fF:Obj:=fn "_law_refused" "_law_refused" (x 50) "law_patchkin_k06_what_a_patch_leans_on" 860 565
def fG:Obj:=co "_law_straight" "_law_straight" 935 420 2 3 555 181 [556,0,0,0,557] 938
def fH:Obj:=fn "_law_deed" "_law_deed" (x 46) "law_patchkin_k06_what_a_patch_leans_on" 860 541
def fI:Obj:=l3 [(219,4,358),(224,4,365),(230,4,372),(233,4,379),(236,4,384),(240,4,389),(250,4,394),(259,4,401),(265,4,406),(275,4,413),(283,4,418),(287,4,423),(293,4,430),(296,4,435),(299,4,442),(302,4,449),(305,4,454),(308,4,461),(311,4,468),(315,4,475),(319,4,482),(323,4,489),(329,4,496)]
def fJ:Obj:=co "_law_cell_at" "_law_cell_at" 862 338 2 3 505 181 [506,0,507,508,509] 867
def fK(P:Params):Obj:=dt ((d P "__name__" 165 (v "patchkin.desk" 605))::hc P) 44
def fL:Obj:=fv "_law_edit" "_law_edit" (x 45)
def fM:Obj:=fv "_law_name" "_law_name" (x 43)
def fN:Obj:=fv "_law_desk" "_law_desk" (x 47)
def fP:Obj:=fv "_law_straight" "_law_straight" (x 49)
def fQ:Obj:=fv "_law_cell_at" "_law_cell_at" (x 41)
def fR:Obj:=fv "_law_text" "_law_text" (x 44)
def fS:Obj:=fv "_law_names_are" "_law_names_are" (x 48)
def fT:Obj:=l3 [(1,0,20),(5,0,27),(13,0,32),(18,0,39),(23,0,46),(34,0,53),(36,0,66),(38,0,78),(40,0,90),(42,0,102),(44,0,114),(46,0,126),(48,0,138),(50,0,150),(53,0,162),(60,0,183),(68,0,202),(74,0,207),(79,0,214),(88,0,221),(94,0,226),(101,0,231),(104,0,238),(114,0,245),(120,0,250),(136,0,257),(141,0,262),(156,0,269),(181,0,318),(187,0,325),(193,0,332),(198,0,339),(209,0,344),(217,0,351),(338,0,510),(342,0,517),(346,0,524),(358,0,529),(366,0,536),(382,0,541),(401,0,546),(413,0,553),(420,0,558),(428,0,565),(439,0,570)]
def fU:Obj:=fv "_law_draw" "_law_draw" (x 42)
def fV:Obj:=fv "_law_refused" "_law_refused" (x 50)
def fW:Obj:=fv "_law_deed" "_law_deed" (x 46)
def fX:Obj:=l3 [(1,0,20),(5,0,27),(13,0,32),(18,0,39),(23,0,46),(34,0,53),(36,0,66),(38,0,78),(40,0,90),(42,0,102),(44,0,114),(46,0,126),(48,0,138),(50,0,150),(53,0,162),(60,0,183),(68,0,202),(74,0,207),(79,0,214),(88,0,221),(94,0,226),(101,0,231),(104,0,238),(114,0,245),(120,0,250),(136,0,257),(141,0,262),(156,0,269),(181,0,318),(187,0,325),(193,0,332),(198,0,339),(209,0,344),(217,0,351)]
def fY(P:Params):Obj:=dt ((d P "__name__" 165 (v "patchkin.errors" 236))::g6 P) 22
def f1(P:Params):Obj:=dt ((d P "__name__" 165 (v "patchkin.errors" 236))::g1 P) 17
def f4(P:Params):Obj:=dt ((d P "__name__" 165 (v "patchkin.order" 384))::ha P) 36
def f6(P:Params):Obj:=dt ((d P "__name__" 165 (v "patchkin.errors" 236))::g0 P) 16
def f9(P:Params):Obj:=dt ((d P "__name__" 165 (v "patchkin.order" 384))::g7 P) 23
def gc(P:Params):Obj:=dt ((d P "__name__" 165 (v "patchkin.errors" 236))::g5 P) 21
def gf(P:Params):Obj:=dt ((d P "__name__" 165 (v "patchkin.errors" 236))::g4 P) 20
def gi(P:Params):Obj:=dt ((d P "__name__" 165 (v "patchkin.errors" 236))::g3 P) 19
def gl(P:Params):Obj:=dt ((d P "__name__" 165 (v "patchkin.desk" 605))::hb P) 39
def gp(P:Params):Obj:=dt ((d P "__name__" 165 (v "patchkin.order" 384))::g8 P) 24
def gr(P:Params):Obj:=dt ((d P "__name__" 165 (v "patchkin.desk" 605))::hd P) 45
def gs(P:Params):Obj:=dt ((d P "__name__" 165 (v "patchkin.order" 384))::g9 P) 31
def gu(P:Params):Obj:=dt ((d P "__name__" 165 (v "patchkin.errors" 236))::gZ P) 15
def gx(P:Params):Obj:=dt ((d P "__name__" 165 (v "patchkin.errors" 236))::g2 P) 18
def gA(P:Params):BT:=n aa (n az (n (aL P) (f bk) z) (f aZ)) (n ag (n aS (f br) z) (f (bd P)))
def gB(P:Params):BT:=n aA (n ab (n aN (f bl) z) (f (a7 P))) (n aa (f aT) (f bf))
def gC(P:Params):BT:=n ak (n al (n ab (f (bg P)) z) (f ad)) (n ac (f (aO P)) (f ab))
def gD(P:Params):BT:=n aa (n aE (n ab (f (bn P)) z) (f ad)) (n ad (f (aV P)) (f ab))
def gE:BT:=n aa (f aa) z
def gF:BT:=n ab (n an gE (f a3)) (n ao (n aa (f bu) z) (f aa))
def gG:BT:=n au (n av (n aa (f bo) z) (f aa)) (n ab (f aW) (f aa))
def gH(P:Params):BT:=n aa (n aa (n aQ (f bi) z) (f ac)) (n (aG P) (f aR) (f bj))
def gI:BT:=n ab (n ay (n aX (f bp) z) (f ac)) (n ac (f aY) (f bq))
def gJ:BT:=n aA (n ab (f aN) z) (n aa (f aT) z)
def gK:BT:=n au (n av (f aa) z) (n ab (f aW) z)
def gL:BT:=n ab (f ac) z
def gM:BT:=n ab (f ab) (f ab)
def gN:BT:=n aq (n aP (f aa) (f ab)) (n aa (f b5) (f b6))
def gO:BT:=n aa (f aa) (f aa)
def gP:BT:=n ab (f ab) z
def gQ:BT:=n aa gE (f aa)
def gR(P:Params):BT:=n am (n aa (f (aC P)) (f ab)) (n aD (f ad) (f (a9 P)))
def gS:BT:=n aa (n aI (f aJ) (f bb)) (n aK (f ac) (f bc))
def gT:BT:=n aw (n aa (f aa) (f ba)) (n aF (f aa) z)
def gU:BT:=n aH (n ab (f ac) (f a4)) (n ax (f a5) z)
def gV:BT:=n ab (n an (f aa) (f a3)) (n ao (f aa) z)
def gW:BT:=n ab (n ay (f aX) z) (n ac (f aY) z)
def gX:BT:=n aa (f ab) z
def gY:BT:=n aa (f aa) (f ab)
end
end TW
namespace PySem.W.Fast
open PySem PySem.W L2 PK TW
noncomputable section
def tw15712969484172677948:Program:=PySem.Challenge.pw_patchkin_k06_what_a_patch_leans_on
theorem te15712969484172677948:tw15712969484172677948=tw15712969484172677948:=rfl
def tw16034700690953358208:Params→BT:=fun P=>n (boot_o_0 P) (n (boot_o_1 P) (n (fY P) (n (boot_o_7 P) (gA P) (n ab (n ah (n aM (f (bs P)) z) (f a6)) (n aa (f (a0 P)) (f be)))) (n aa (gB P) (n ai (n aj (n (aU P) (f bt) z) (f a8)) (n aB (f a1) (f (bm P)))))) (n (boot_o_5 P) (n (boot_o_9 P) (gC P) (n aa (n aa (n ad (f ab) z) (f (a2 P))) (n (ty (cl (S "PatchError") [(w "ValueError")] [(r 57),(w "ValueError"),(w "Exception"),(w "BaseException"),(w "object")] 56 (S "PatchError") true [] [(r 70),(r 82),(r 94),(r 106),(r 118),(r 130),(r 142)] false none false) [(k (r 48)),none,(k (v "PatchError" 238)),(k (v "PatchError" 246)),(k (b "ValueError.__new__")),(k (vl true))]) (f ab) (f ad)))) (n ae (n am (n aa (n (aC P) (f ad) z) (f ab)) (n aD (f ad) (f (a9 P)))) (gD P)))) (n (boot_o_2 P) (n (boot_o_4 P) (n (boot_o_8 P) gF (n ap (n aq (n aP (f aa) z) (f aa)) (n (ar P) (f aa) (f bh)))) (n (l3 [(1,0,20),(5,0,27),(13,0,32),(18,0,39),(23,0,46),(34,0,53),(36,0,66),(38,0,78),(40,0,90),(42,0,102),(44,0,114),(46,0,126),(48,0,138)]) gG (n aw (n aa gE (f ba)) (n aF (f aa) (f aa))))) (n (boot_o_6 P) (n (boot_o_10 P) (gH P) (n aH (n ab (n ac (f bv) z) (f a4)) (n ax (f a5) (f ac)))) (n af (n aa (n aI (n aJ (f ac) z) (f bb)) (n aK (f ac) (f bc))) gI)))
theorem te16034700690953358208:tw16034700690953358208=tw16034700690953358208:=rfl
def tw4795722868597381056:Params→BT:=fun P=>n (boot_o_0 P) (n (boot_o_1 P) (n (f1 P) (n (boot_o_7 P) (n aa (n az (f (aL P)) z) (n ag (f aS) z)) (n ab (n ah (f aM) z) (f aa))) (n aa gJ (n ai (n aj (f (aU P)) z) (f aB)))) (n (boot_o_5 P) (n (boot_o_9 P) (n ak (n al (f ab) z) (n ac (f (aO P)) z)) (n aa (n aa (f ad) z) (f (ty (cl (S "PatchError") [(w "ValueError")] [(r 57),(w "ValueError"),(w "Exception"),(w "BaseException"),(w "object")] 56 (S "PatchError") true [] [(r 70),(r 82)] false none false) [(k (r 48)),none,(k (v "PatchError" 238)),(k (v "PatchError" 246)),(k (b "ValueError.__new__")),(k (vl true))])))) (n ae (n am (n aa (f (aC P)) z) (f aD)) (n aa (n aE (f ab) z) (f ad))))) (n (boot_o_2 P) (n (boot_o_4 P) (n (boot_o_8 P) (n ab (n an (f aa) z) (n ao (f aa) z)) (n ap (n aq (f aP) z) (f (ar P)))) (n (l3 [(1,0,20),(5,0,27),(13,0,32),(18,0,39),(23,0,46),(34,0,53),(36,0,66),(38,0,78)]) gK (n aw gE (f aF)))) (n (boot_o_6 P) (n (boot_o_10 P) (n aa (n aa (f aQ) z) (n (aG P) (f aR) z)) (n aH gL (f ax))) (n af (n aa (n aI (f aJ) z) (f aK)) (n ab (n ay (f aX) z) (f ac)))))
theorem te4795722868597381056:tw4795722868597381056=tw4795722868597381056:=rfl
def tw9613784674957897763:Params→BT:=fun P=>n (boot_o_0 P) (n (boot_o_1 P) (n (f4 P) (n (boot_o_7 P) (n aa (n az (n (aL P) (n bk (f aa) z) (f bN)) (n aZ (f (bO P)) (f aa))) (n ag (n aS (f br) (f bP)) (n (bd P) (f bA) (f cg)))) (n ab (n ah (n aM (n (bs P) (f ch) z) (f aa)) (n a6 (f aa) (f bQ))) (n aa (n (a0 P) (f bB) (f bR)) (n be (f ci) (f aa))))) (n aa (n aA (n ab (n aN (n bl (f aa) z) (f bS)) (n (a7 P) (f bT) (f bU))) (n aa (n aT (f (bC P)) (f bV)) (n bf (f ac) (f aa)))) (n ai (n aj (n (aU P) (f bt) (f bW)) (n a8 (f bD) (f cj))) (n aB (n a1 (f bE) (f aa)) (n (bm P) (f bX) (f ck)))))) (n (boot_o_5 P) (n (boot_o_9 P) (n ak (n al (n ab (n (bg P) (f cm) z) (f (bY P))) (n ad (f bZ) (f cn))) (n ac (n (aO P) (f ad) (f aa)) (n ab (f b0) (f ab)))) (n aa (n aa (n ad (f ab) (f cp)) (n (a2 P) (f bF) (f aa))) (n bw (n ab (f (bx P)) (f ab)) (n ad (f aa) (f cI))))) (n ae (n am (n aa (n (aC P) (n ad (f cJ) z) (f cq)) gM) (n aD (n ad (f ab) (f cr)) (n (a9 P) (f aa) (f cs)))) (n aa (n aE (n ab (f (bn P)) (f ab)) (n ad (f bG) (f cK))) (n ad (n (aV P) (f aa) (f b1)) (n ab (f ct) (f ab))))))) (n (boot_o_2 P) (n (boot_o_4 P) (n (boot_o_8 P) (n ab (n an (n aa (n aa (f cL) z) (f b2)) (n a3 (f aa) (f ab))) (n ao (n aa (f bu) (f b3)) (n aa (f b4) (f aa)))) (n ap gN (n (ar P) gO (n bh (f cu) (f ab))))) (n (l3 [(1,0,20),(5,0,27),(13,0,32),(18,0,39),(23,0,46),(34,0,53),(36,0,66),(38,0,78),(40,0,90),(42,0,102),(44,0,114),(46,0,126),(48,0,138),(50,0,150),(53,0,162),(60,0,183),(68,0,202),(74,0,207),(79,0,214),(88,0,221),(94,0,226),(101,0,231),(104,0,238),(114,0,245),(120,0,250),(136,0,257),(141,0,262)]) (n au (n av (n aa (n bo (f ab) z) (f b7)) gO) (n ab (n aW (f aa) (f aa)) (n aa (f (cv P)) (f cM)))) (n aw (n aa gO (n ba (f (bH P)) (f aa))) (n aF (n aa (f bI) (f cw)) gO)))) (n (boot_o_6 P) (n (boot_o_10 P) (n aa (n aa (n aQ (n bi (f cx) z) (f b8)) (n ac (f b9) (f ca))) (n (aG P) (n aR (f ac) (f ab)) (n bj (f aa) (f cy)))) (n aH (n ab (n ac (f bv) (f cb)) (n a4 (f bJ) (f ab))) (n ax (n a5 (f bz) (f cc)) (n ac (f ab) (f cz))))) (n af (n aa (n aI (n aJ (n ac (f cA) z) (f cB)) (n bb (f bK) (f cC))) (n aK (n ac (f bL) (f cd)) (n bc (f cD) (f cE)))) (n ab (n ay (n aX (f bp) (f cF)) (n ac (f bM) (f cG))) (n ac (n aY (f ac) (f ce)) (n bq (f cf) (f cH)))))))
theorem te9613784674957897763:tw9613784674957897763=tw9613784674957897763:=rfl
def tw14296507079403984388:Params→BT:=fun P=>n (boot_o_0 P) (n (boot_o_1 P) (n (f6 P) (n (boot_o_7 P) (n aa (n az (f (aL P)) z) (f ag)) (n ab (n ah (f aM) z) (f aa))) (n aa (n aA (n ab (f aN) z) (f aa)) (n ai (f aj) (f aB)))) (n (boot_o_5 P) (n (boot_o_9 P) (n ak (n al (f ab) z) (f ac)) (n aa (f aa) (f (ty (cl (S "PatchError") [(w "ValueError")] [(r 57),(w "ValueError"),(w "Exception"),(w "BaseException"),(w "object")] 56 (S "PatchError") true [] [(r 70)] false none false) [(k (r 48)),none,(k (v "PatchError" 238)),(k (v "PatchError" 246)),(k (b "ValueError.__new__")),(k (vl true))])))) (n ae (n am (n aa (f (aC P)) z) (f aD)) (n aa (f aE) (f ad))))) (n (boot_o_2 P) (n (boot_o_4 P) (n (boot_o_8 P) (n ab (n an (f aa) z) (f ao)) (n ap (n aq (f aP) z) (f (ar P)))) (n (l3 [(1,0,20),(5,0,27),(13,0,32),(18,0,39),(23,0,46),(34,0,53),(36,0,66)]) (n au (n av (f aa) z) (f ab)) (n aw (f aa) (f aF)))) (n (boot_o_6 P) (n (boot_o_10 P) (n aa (n aa (f aQ) z) (f (aG P))) (n aH (f ab) (f ax))) (n af (n aa (n aI (f aJ) z) (f aK)) (n ab (f ay) (f ac)))))
theorem te14296507079403984388:tw14296507079403984388=tw14296507079403984388:=rfl
def tw821741070118629092:Params→BT:=fun P=>n (boot_o_0 P) (n (boot_o_1 P) (n (f9 P) (n (boot_o_7 P) (gA P) (n ab (n ah (n aM (f (bs P)) z) (f a6)) (n aa (n (a0 P) (f bB) z) (f be)))) (n aa (n aA (n ab (n aN (f bl) z) (f (a7 P))) (n aa (n aT (f (bC P)) z) (f bf))) (n ai (n aj (n (aU P) (f bt) z) (f a8)) (n aB (n a1 (f bE) z) (f (bm P)))))) (n (boot_o_5 P) (n (boot_o_9 P) (n ak (n al (n ab (f (bg P)) z) (f ad)) (n ac (n (aO P) (f ad) z) (f ab))) (n aa (n aa (n ad (f ab) z) (f (a2 P))) (n bw (n ab (f (bx P)) z) (f ad)))) (n ae (n am (n aa (n (aC P) (f ad) z) (f ab)) (n aD (n ad (f ab) z) (f (a9 P)))) (gD P)))) (n (boot_o_2 P) (n (boot_o_4 P) (n (boot_o_8 P) gF (n ap (n aq (n aP (f aa) z) (f aa)) (n (ar P) gE (f bh)))) (n (l3 [(1,0,20),(5,0,27),(13,0,32),(18,0,39),(23,0,46),(34,0,53),(36,0,66),(38,0,78),(40,0,90),(42,0,102),(44,0,114),(46,0,126),(48,0,138),(50,0,150)]) (n au (n av (n aa (f bo) z) (f aa)) (n ab (n aW (f aa) z) (f aa))) (n aw (n aa gE (f ba)) (n aF (n aa (f bI) z) (f aa))))) (n (boot_o_6 P) (n (boot_o_10 P) (n aa (n aa (n aQ (f bi) z) (f ac)) (n (aG P) (n aR (f ac) z) (f bj))) (n aH (n ab (n ac (f bv) z) (f a4)) (n ax (n a5 (f bz) z) (f ac)))) (n af (n aa (n aI (n aJ (f ac) z) (f bb)) (n aK (n ac (f bL) z) (f bc))) gI)))
theorem te821741070118629092:tw821741070118629092=tw821741070118629092:=rfl
def tw1765781580901853349:Params→BT:=fun P=>n (boot_o_0 P) (n (boot_o_1 P) (n (fK P) (n (boot_o_7 P) (n aa (n az (n (aL P) (n bk (f aa) z) (n bN (f c7) z)) (n aZ (n (bO P) (f cN) z) (f aa))) (n ag (n aS (n br (f aa) z) (n bP (f ab) z)) (n (bd P) (n bA (f c8) z) (f cg)))) (n ab (n ah (n aM (n (bs P) (f ch) z) gE) (n a6 gE (f bQ))) (n aa (n (a0 P) (n bB (f ab) z) (n bR (f dA) z)) (n be (n ci (f c9) z) (f aa))))) (n aa (n aA (n ab (n aN (n bl (f aa) z) (n bS (f aa) z)) (n (a7 P) (n bT (f cO) z) (f bU))) (n aa (n aT (n (bC P) (f da) z) (n bV (f db) z)) (n bf (n ac (f (cP P)) z) (f aa)))) (n ai (n aj (n (aU P) (n bt (f aa) z) (n bW (f dB) z)) (n a8 (n bD (f aa) z) (f cj))) (n aB (n a1 (n bE (f cQ) z) (f aa)) (n (bm P) (n bX (f dc) z) (f ck)))))) (n (boot_o_5 P) (n (boot_o_9 P) (n ak (n al (n ab (n (bg P) (f cm) z) (n (bY P) (f ab) z)) (n ad (n bZ (f df) z) (f cn))) (n ac (n (aO P) (n ad (f cR) z) gE) (n ab (n b0 (f cS) z) (f ab)))) (n aa (n aa (n ad gL (n cp (f dg) z)) (n (a2 P) (n bF (f cT) z) (f aa))) (n bw (n ab (n (bx P) (f aa) z) (n ab (f dh) z)) (n ad gE (f cI))))) (n ae (n am (n aa (n (aC P) (n ad (f cJ) z) (n cq (f di) z)) (n ab gP (f ab))) (n aD (n ad (n ab (f cU) z) (n cr (f aa) z)) (n (a9 P) (n aa (f cV) z) (f cs)))) (n aa (n aE (n ab (n (bn P) (f dj) z) (n ab (f dk) z)) (n ad (n bG (f cW) z) (f cK))) (n ad (n (aV P) gE (f b1)) (n ab (n ct (f dC) z) (f ab))))))) (n (boot_o_2 P) (n (boot_o_4 P) (n (boot_o_8 P) (n ab (n an (n aa (n aa (f cL) z) (n b2 (f aa) z)) (n a3 gE (f ab))) (n ao (n aa (n bu (f ab) z) (n b3 (f dl) z)) (n aa (n b4 (f cX) z) (f aa)))) (n ap (n aq (n aP gE gP) (n aa (n b5 (f dm) z) (f b6))) (n (ar P) (n aa (n aa (f cY) z) (n aa (f dn) z)) (n bh (n cu (f dp) z) (f ab))))) (n (l3 [(1,0,20),(5,0,27),(13,0,32),(18,0,39),(23,0,46),(34,0,53),(36,0,66),(38,0,78),(40,0,90),(42,0,102),(44,0,114),(46,0,126),(48,0,138),(50,0,150),(53,0,162),(60,0,183),(68,0,202),(74,0,207),(79,0,214),(88,0,221),(94,0,226),(101,0,231),(104,0,238),(114,0,245),(120,0,250),(136,0,257),(141,0,262),(156,0,269),(181,0,318),(187,0,325),(193,0,332),(198,0,339),(209,0,344)]) (n au (n av (n aa (n bo (f ab) z) (n b7 (f dD) z)) gQ) (n ab (n aW (n aa (f cZ) z) (n aa (f dq) z)) (n aa (n (cv P) (f c0) z) (f cM)))) (n aw (n aa (n aa (n aa (f dr) z) (n aa (f ds) z)) (n ba (n (bH P) (f ab) z) (f aa))) (n aF (n aa (n bI (f c1) z) (f cw)) gQ)))) (n (boot_o_6 P) (n (boot_o_10 P) (n aa (n aa (n aQ (n bi (f cx) z) (n b8 (f du) z)) (n ac (n b9 (f c2) z) (f ca))) (n (aG P) (n aR (n ac (f aa) z) (n ab (f dE) z)) (n bj (n aa (f c3) z) (f cy)))) (n aH (n ab (n ac (n bv (f (dv P)) z) (n cb (f aa) z)) (n a4 (n bJ (f c4) z) (f ab))) (n ax (n a5 (n bz (f dw) z) (f cc)) (n ac gP (f cz))))) (n af (n aa (n aI (n aJ (n ac (f cA) z) (n cB (f dx) z)) (n bb (n bK (f c5) z) (f cC))) (n aK (n ac (n bL (f aa) z) (n cd (f ab) z)) (n bc (n cD (f c6) z) (f cE)))) (n ab (n ay (n aX (n bp (f dy) z) (n cF (f aa) z)) (n ac (n bM (f aa) z) (f cG))) (n ac (n aY (n ac (f ab) z) (f ce)) (n bq (n cf (f dz) z) (f cH)))))))
theorem te1765781580901853349:tw1765781580901853349=tw1765781580901853349:=rfl
def tw9317953665744531781:Params→BT:=fun P=>n (boot_o_0 P) (n (boot_o_1 P) (n (gc P) (n (boot_o_7 P) (n aa (n az (n (aL P) (f bk) z) (f aZ)) (n ag (f aS) (f (bd P)))) (n ab (n ah (f aM) (f a6)) (n aa (f (a0 P)) (f be)))) (n aa (gB P) (n ai (n aj (f (aU P)) (f a8)) (n aB (f a1) (f (bm P)))))) (n (boot_o_5 P) (n (boot_o_9 P) (gC P) (n aa (n aa (f ad) (f (a2 P))) (n (ty (cl (S "PatchError") [(w "ValueError")] [(r 57),(w "ValueError"),(w "Exception"),(w "BaseException"),(w "object")] 56 (S "PatchError") true [] [(r 70),(r 82),(r 94),(r 106),(r 118),(r 130)] false none false) [(k (r 48)),none,(k (v "PatchError" 238)),(k (v "PatchError" 246)),(k (b "ValueError.__new__")),(k (vl true))]) (f ab) (f ad)))) (n ae (gR P) (n aa (n aE (f ab) (f ad)) (n ad (f (aV P)) (f ab)))))) (n (boot_o_2 P) (n (boot_o_4 P) (n (boot_o_8 P) (n ab (n an gE (f a3)) (n ao (f aa) (f aa))) (n ap (n aq (f aP) (f aa)) (n (ar P) (f aa) (f bh)))) (n (l3 [(1,0,20),(5,0,27),(13,0,32),(18,0,39),(23,0,46),(34,0,53),(36,0,66),(38,0,78),(40,0,90),(42,0,102),(44,0,114),(46,0,126)]) gG (n aw (n aa (f aa) (f ba)) (n aF (f aa) (f aa))))) (n (boot_o_6 P) (n (boot_o_10 P) (gH P) (n aH (n ab (f ac) (f a4)) (n ax (f a5) (f ac)))) (n af gS (n ab (n ay (f aX) (f ac)) (n ac (f aY) (f bq))))))
theorem te9317953665744531781:tw9317953665744531781=tw9317953665744531781:=rfl
def tw11554017503958039944:Params→BT:=fun P=>n (boot_o_0 P) (n (boot_o_1 P) (n (boot_o_3 P) (f (boot_o_7 P)) (f aa)) (n (boot_o_5 P) (f (boot_o_9 P)) (f ae))) (n (boot_o_2 P) (n (boot_o_4 P) (f (boot_o_8 P)) (f ab)) (n (boot_o_6 P) (f (boot_o_10 P)) (f af)))
theorem te11554017503958039944:tw11554017503958039944=tw11554017503958039944:=rfl
def tw6215265057705211341:Params→BT:=fun P=>n (boot_o_0 P) (n (boot_o_1 P) (n (gf P) (n (boot_o_7 P) (n aa (n az (f (aL P)) (f aZ)) (n ag (f aS) (f (bd P)))) (n ab (n ah (f aM) (f a6)) (n aa (f (a0 P)) (f be)))) (n aa (n aA (n ab (f aN) (f (a7 P))) (n aa (f aT) (f bf))) (n ai (n aj (f (aU P)) (f a8)) (n aB (f a1) z)))) (n (boot_o_5 P) (n (boot_o_9 P) (n ak (n al (f ab) (f ad)) (n ac (f (aO P)) (f ab))) (n aa (n aa (f ad) (f (a2 P))) (n (ty (cl (S "PatchError") [(w "ValueError")] [(r 57),(w "ValueError"),(w "Exception"),(w "BaseException"),(w "object")] 56 (S "PatchError") true [] [(r 70),(r 82),(r 94),(r 106),(r 118)] false none false) [(k (r 48)),none,(k (v "PatchError" 238)),(k (v "PatchError" 246)),(k (b "ValueError.__new__")),(k (vl true))]) (f ab) z))) (n ae (gR P) (n aa (n aE (f ab) (f ad)) (n ad (f (aV P)) z))))) (n (boot_o_2 P) (n (boot_o_4 P) (n (boot_o_8 P) (n ab (n an (f aa) (f a3)) (n ao (f aa) (f aa))) (n ap (n aq (f aP) (f aa)) (n (ar P) (f aa) (f bh)))) (n (l3 [(1,0,20),(5,0,27),(13,0,32),(18,0,39),(23,0,46),(34,0,53),(36,0,66),(38,0,78),(40,0,90),(42,0,102),(44,0,114)]) (n au (n av (f aa) (f aa)) (n ab (f aW) (f aa))) gT)) (n (boot_o_6 P) (n (boot_o_10 P) (n aa (n aa (f aQ) (f ac)) (n (aG P) (f aR) (f bj))) gU) (n af gS (n ab (n ay (f aX) (f ac)) (n ac (f aY) z)))))
theorem te6215265057705211341:tw6215265057705211341=tw6215265057705211341:=rfl
def tw14948947437735543631:Params→BT:=fun P=>n (boot_o_0 P) (n (boot_o_1 P) (n (gi P) (n (boot_o_7 P) (n aa (n az (f (aL P)) (f aZ)) (n ag (f aS) z)) (n ab (n ah (f aM) (f a6)) (n aa (f (a0 P)) z))) (n aa (n aA (n ab (f aN) (f (a7 P))) (n aa (f aT) z)) (n ai (n aj (f (aU P)) (f a8)) (n aB (f a1) z)))) (n (boot_o_5 P) (n (boot_o_9 P) (n ak (n al (f ab) (f ad)) (n ac (f (aO P)) z)) (n aa (n aa (f ad) (f (a2 P))) (n (ty (cl (S "PatchError") [(w "ValueError")] [(r 57),(w "ValueError"),(w "Exception"),(w "BaseException"),(w "object")] 56 (S "PatchError") true [] [(r 70),(r 82),(r 94),(r 106)] false none false) [(k (r 48)),none,(k (v "PatchError" 238)),(k (v "PatchError" 246)),(k (b "ValueError.__new__")),(k (vl true))]) (f ab) z))) (n ae (n am (n aa (f (aC P)) (f ab)) (n aD (f ad) z)) (n aa (n aE (f ab) z) (n ad (f (aV P)) z))))) (n (boot_o_2 P) (n (boot_o_4 P) (n (boot_o_8 P) gV (n ap (n aq (f aP) (f aa)) (n (ar P) (f aa) z))) (n (l3 [(1,0,20),(5,0,27),(13,0,32),(18,0,39),(23,0,46),(34,0,53),(36,0,66),(38,0,78),(40,0,90),(42,0,102)]) (n au (n av (f aa) (f aa)) (n ab (f aW) z)) gT)) (n (boot_o_6 P) (n (boot_o_10 P) (n aa (n aa (f aQ) (f ac)) (n (aG P) (f aR) z)) gU) (n af (n aa (n aI (f aJ) (f bb)) (n aK (f ac) z)) gW)))
theorem te14948947437735543631:tw14948947437735543631=tw14948947437735543631:=rfl
def tw7335389716793691222:Params→BT:=fun P=>n (boot_o_0 P) (n (boot_o_1 P) (n (eX P) (n (boot_o_7 P) (n aa (n az (n (aL P) (n bk (n aa (f eY) z) (f d9)) (n bN (f c7) (f aa))) (n aZ (n (bO P) (n cN (f aa) z) (f aa)) (n aa (f ea) (f eb)))) (n ag (n aS (n br gX (f aa)) (n bP (f ab) (f aa))) (n (bd P) (n bA (n c8 (f eZ) z) (f ec)) (n cg (f aa) (f e0))))) (n ab (n ah (n aM (n (bs P) (n ch (f aa) z) (f aa)) (n aa (f aa) (f ed))) (n a6 (n aa gE (f dF)) (n bQ (f dG) (f aa)))) (n aa (n (a0 P) (n bB (n ab (f fL) z) (f dH)) (n bR (f dA) (f ab))) (n be (n ci (n c9 (f aa) z) (f ee)) (n aa (f ab) (f e1)))))) (n aa (n aA (n ab (n aN (n bl gE (f ab)) (n bS (f aa) (f aa))) (n (a7 P) (n bT (n cO (f e2) z) (f dI)) (n bU (f dJ) (f ef)))) (n aa (n aT (n (bC P) (n da (f aa) z) (f aa)) (n bV (f db) (f e3))) (n bf (n ac (n (cP P) (f aa) z) (f eg)) (n aa (f eh) (f (ei P)))))) (n ai (n aj (n (aU P) (n bt (n aa (f fM) z) (f dK)) (n bW (f dB) (f aa))) (n a8 (n bD gE (f ej)) (n cj (f aa) (f aa)))) (n aB (n a1 (n bE (n cQ (f ab) z) (f aa)) (n aa (f ac) (f ek))) (n (bm P) (n bX (n dc (f e4) z) (f el)) (n ck (f dL) (f e5))))))) (n (boot_o_5 P) (n (boot_o_9 P) (n ak (n al (n ab (n (bg P) (n cm (f ab) z) (f dM)) (n (bY P) (f ab) (f em))) (n ad (n bZ (n df (f fN) z) (f en)) (n cn (f aa) (f e6)))) (n ac (n (aO P) (n ad (n cR (f e7) z) (f dN)) (n aa (f aa) (f eo))) (n ab (n b0 (n cS (f ab) z) (f ab)) (n ab (f dO) (f ep))))) (n aa (n aa (n ad (n ab (n ac (f e8) z) (f eq)) (n cp (f dg) (f ab))) (n (a2 P) (n bF (n cT (f e9) z) (f aa)) (n aa (f ab) (f er)))) (n bw (n ab (n (bx P) (n aa (f fa) z) (f ab)) (n ab (f dh) (f aa))) (n ad (n aa (n aa (f (fv "law" "law" (x 51))) z) (f fb)) (n cI (f aa) (f aa)))))) (n ae (n am (n aa (n (aC P) (n ad (n cJ (f fc) z) (f dP)) (n cq (f di) (f fe))) (n ab (n ab gP (f ab)) (n ab (f es) (f ab)))) (n aD (n ad (n ab (n cU (f ff) z) (f et)) (n cr (f aa) (f eu))) (n (a9 P) (n aa (n cV (f fg) z) (f aa)) (n cs (f dQ) (f ev))))) (n aa (n aE (n ab (n (bn P) (n dj (f fh) z) (f ab)) (n ab (f dk) (f ew))) (n ad (n bG (n cW (f fP) z) (f fi)) (n cK (f dR) (f ex)))) (n ad (n (aV P) (n aa (n aa (f fj) z) (f dS)) (n b1 (f aa) (f aa))) (n ab (n ct (f dC) (f ab)) (n ab (f aa) (f fQ)))))))) (n (boot_o_2 P) (n (boot_o_4 P) (n (boot_o_8 P) (n ab (n an (n aa (n aa (n cL (f aa) z) (f dT)) (n b2 (f aa) (f fk))) (n a3 (n aa gX (f ab)) (n ab (f ey) (f aa)))) (n ao (n aa (n bu (n ab (f fR) z) (f ez)) (n b3 (f dl) (f ab))) (n aa (n b4 (n cX (f aa) z) (f aa)) (n aa (f ab) (f eA))))) (n ap (n aq (n aP (n aa gX (f ab)) (n ab (f ab) (f aa))) (n aa (n b5 (n dm (f fS) z) (f dU)) (n b6 (f aa) (f fm)))) (n (ar P) (n aa (n aa (n cY (f fo) z) (f aa)) (n aa (f dn) (f eB))) (n bh (n cu (n dp (f ab) z) (f aa)) (n ab (f dV) (f fp)))))) (n fT (n au (n av (n aa (n bo (n ab (f fU) z) (f eC)) (n b7 (f dD) (f ab))) (n aa gQ gO)) (n ab (n aW (n aa (n cZ (f ab) z) (f ab)) (n aa (f dq) (f eD))) (n aa (n (cv P) (n c0 (f fV) z) (f eE)) (n cM (f dW) (f eF))))) (n aw (n aa (n aa (n aa (n dr (f fq) z) (f aa)) (n aa (f ds) (f fs))) (n ba (n (bH P) gP (f aa)) (n aa (f eG) (f ab)))) (n aF (n aa (n bI (n c1 (f fW) z) (f eH)) (n cw (f (ft P)) (f eI))) (n aa gO (n aa (f dX) (f aa))))))) (n (boot_o_6 P) (n (boot_o_10 P) (n aa (n aa (n aQ (n bi (n cx (f fu) z) (f aa)) (n b8 (f du) (f eJ))) (n ac (n b9 (n c2 (f fw) z) (f dY)) (n ca (f ab) (f eK)))) (n (aG P) (n aR (n ac (n aa (f fx) z) (f dZ)) (n ab (f dE) (f aa))) (n bj (n aa (n c3 (f fy) z) (f fz)) (n cy (f aa) (f eL))))) (n aH (n ab (n ac (n bv (n (dv P) (f aa) z) (f d0)) (n cb (f aa) (f eM))) (n a4 (n bJ (n c4 (f fA) z) (f ab)) (n ab (f d1) (f eN)))) (n ax (n a5 (n bz (n dw (f aa) z) (f d2)) (n cc (f aa) (f fB))) (n ac (n ab (n ab (f fC) z) (f eO)) (n cz (f eP) (f ab)))))) (n af (n aa (n aI (n aJ (n ac (n cA (f fD) z) (f d3)) (n cB (f dx) (f eQ))) (n bb (n bK (n c5 (f fE) z) (f eR)) (n cC (f d4) (f eS)))) (n aK (n ac (n bL gE (f d5)) (n cd (f ab) (f aa))) (n bc (n cD (n c6 (f fF) z) (f ab)) (n cE (f aa) (f eT))))) (n ab (n ay (n aX (n bp (n dy (f aa) z) (f d6)) (n cF (f aa) (f eU))) (n ac (n bM (n aa (f fG) z) (f eV)) (n cG (f d7) (f aa)))) (n ac (n aY (n ac (n ab (f fH) z) (f d8)) (n ce (f fI) (f ab))) (n bq (n cf (f dz) (f eW)) (n cH (f ab) (f fJ))))))))
theorem te7335389716793691222:tw7335389716793691222=tw7335389716793691222:=rfl
def tw16082767773835404534:Params→BT:=fun P=>n (boot_o_0 P) (n (boot_o_1 P) (n (gl P) (n (boot_o_7 P) (n aa (n az (n (aL P) (n bk (f aa) z) (f bN)) (n aZ (n (bO P) (f cN) z) (f aa))) (n ag (n aS (n br (f aa) z) (f bP)) (n (bd P) (n bA (f c8) z) (f cg)))) (n ab (n ah (n aM (n (bs P) (f ch) z) (f aa)) (n a6 gE (f bQ))) (n aa (n (a0 P) (n bB (f ab) z) (f bR)) (n be (n ci (f c9) z) (f aa))))) (n aa (n aA (n ab (n aN (n bl (f aa) z) (f bS)) (n (a7 P) (n bT (f cO) z) (f bU))) (n aa (n aT (n (bC P) (f da) z) (f bV)) (n bf (n ac (f (cP P)) z) (f aa)))) (n ai (n aj (n (aU P) (n bt (f aa) z) (f bW)) (n a8 (n bD (f aa) z) (f cj))) (n aB (n a1 (n bE (f cQ) z) (f aa)) (n (bm P) (f bX) (f ck)))))) (n (boot_o_5 P) (n (boot_o_9 P) (n ak (n al (n ab (n (bg P) (f cm) z) (f (bY P))) (n ad (n bZ (f df) z) (f cn))) (n ac (n (aO P) (n ad (f cR) z) (f aa)) (n ab (n b0 (f cS) z) (f ab)))) (n aa (n aa (n ad gL (f cp)) (n (a2 P) (n bF (f cT) z) (f aa))) (n bw (n ab (n (bx P) (f aa) z) (f ab)) (n ad (f aa) (f cI))))) (n ae (n am (n aa (n (aC P) (n ad (f cJ) z) (f cq)) (n ab gP (f ab))) (n aD (n ad (n ab (f cU) z) (f cr)) (n (a9 P) (n aa (f cV) z) (f cs)))) (n aa (n aE (n ab (n (bn P) (f dj) z) (f ab)) (n ad (n bG (f cW) z) (f cK))) (n ad (n (aV P) gE (f b1)) (n ab (f ct) (f ab))))))) (n (boot_o_2 P) (n (boot_o_4 P) (n (boot_o_8 P) (n ab (n an (n aa (n aa (f cL) z) (f b2)) (n a3 gE (f ab))) (n ao (n aa (n bu (f ab) z) (f b3)) (n aa (n b4 (f cX) z) (f aa)))) (n ap (n aq (n aP gE (f ab)) (n aa (n b5 (f dm) z) (f b6))) (n (ar P) (n aa (n aa (f cY) z) (f aa)) (n bh (n cu (f dp) z) (f ab))))) (n (l3 [(1,0,20),(5,0,27),(13,0,32),(18,0,39),(23,0,46),(34,0,53),(36,0,66),(38,0,78),(40,0,90),(42,0,102),(44,0,114),(46,0,126),(48,0,138),(50,0,150),(53,0,162),(60,0,183),(68,0,202),(74,0,207),(79,0,214),(88,0,221),(94,0,226),(101,0,231),(104,0,238),(114,0,245),(120,0,250),(136,0,257),(141,0,262),(156,0,269)]) (n au (n av (n aa (n bo (f ab) z) (f b7)) gQ) (n ab (n aW (n aa (f cZ) z) (f aa)) (n aa (n (cv P) (f c0) z) (f cM)))) (n aw (n aa (n aa (n aa (f dr) z) (f aa)) (n ba (n (bH P) (f ab) z) (f aa))) (n aF (n aa (n bI (f c1) z) (f cw)) gO)))) (n (boot_o_6 P) (n (boot_o_10 P) (n aa (n aa (n aQ (n bi (f cx) z) (f b8)) (n ac (n b9 (f c2) z) (f ca))) (n (aG P) (n aR (n ac (f aa) z) (f ab)) (n bj (n aa (f c3) z) (f cy)))) (n aH (n ab (n ac (n bv (f (dv P)) z) (f cb)) (n a4 (n bJ (f c4) z) (f ab))) (n ax (n a5 (n bz (f dw) z) (f cc)) (n ac (f ab) (f cz))))) (n af (n aa (n aI (n aJ (n ac (f cA) z) (f cB)) (n bb (n bK (f c5) z) (f cC))) (n aK (n ac (n bL (f aa) z) (f cd)) (n bc (n cD (f c6) z) (f cE)))) (n ab (n ay (n aX (n bp (f dy) z) (f cF)) (n ac (n bM (f aa) z) (f cG))) (n ac (n aY (n ac (f ab) z) (f ce)) (n bq (f cf) (f cH)))))))
theorem te16082767773835404534:tw16082767773835404534=tw16082767773835404534:=rfl
noncomputable def tw5115926184021590331:Params→BT:=fun P=>n (boot_o_0 P) (n (boot_o_1 P) (n (fK P) (n (boot_o_7 P) (n aa (n az (n (aL P) (n bk (f aa) (f d9)) (n bN (f c7) z)) (n aZ (n (bO P) (f cN) (f aa)) (n aa (f ea) z))) (n ag (n aS (n br (f aa) (f aa)) (n bP (f ab) z)) (n (bd P) (n bA (f c8) z) (n cg (f aa) z)))) (n ab (n ah (n aM (n (bs P) (f ch) (f aa)) gE) (n a6 (n aa (f aa) (f dF)) (n bQ (f dG) z))) (n aa (n (a0 P) (n bB (f ab) (f dH)) (n bR (f dA) z)) (n be (n ci (f c9) z) gX)))) (n aa (n aA (n ab (n aN (n bl (f aa) (f ab)) (n bS (f aa) z)) (n (a7 P) (n bT (f cO) (f dI)) (n bU (f dJ) z))) (n aa (n aT (n (bC P) (f da) (f aa)) (n bV (f db) z)) (n bf (n ac (f (cP P)) z) (n aa (f eh) z)))) (n ai (n aj (n (aU P) (n bt (f aa) (f dK)) (n bW (f dB) z)) (n a8 (n bD (f aa) z) (n cj (f aa) z))) (n aB (n a1 (n bE (f cQ) (f aa)) (n aa (f ac) z)) (n (bm P) (n bX (f dc) z) (n ck (f dL) z)))))) (n (boot_o_5 P) (n (boot_o_9 P) (n ak (n al (n ab (n (bg P) (f cm) (f dM)) (n (bY P) (f ab) z)) (n ad (n bZ (f df) (f en)) (n cn (f aa) z))) (n ac (n (aO P) (n ad (f cR) (f dN)) gE) (n ab (n b0 (f cS) z) (n ab (f dO) z)))) (n aa (n aa (n ad (n ab (f ac) (f eq)) (n cp (f dg) z)) (n (a2 P) (n bF (f cT) z) gX)) (n bw (n ab (n (bx P) (f aa) (f ab)) (n ab (f dh) z)) (n ad gE (n cI (f aa) z))))) (n ae (n am (n aa (n (aC P) (n ad (f cJ) (f dP)) (n cq (f di) z)) (n ab gM (n ab (f es) z))) (n aD (n ad (n ab (f cU) (f et)) (n cr (f aa) z)) (n (a9 P) (n aa (f cV) z) (n cs (f dQ) z)))) (n aa (n aE (n ab (n (bn P) (f dj) (f ab)) (n ab (f dk) z)) (n ad (n bG (f cW) z) (n cK (f dR) z))) (n ad (n (aV P) (n aa (f aa) (f dS)) (n b1 (f aa) z)) (n ab (n ct (f dC) z) (n ab (f aa) z))))))) (n (boot_o_2 P) (n (boot_o_4 P) (n (boot_o_8 P) (n ab (n an (n aa (n aa (f cL) (f dT)) (n b2 (f aa) z)) (n a3 gY (n ab (f ey) z))) (n ao (n aa (n bu (f ab) (f ez)) (n b3 (f dl) z)) (n aa (n b4 (f cX) z) gX))) (n ap (n aq (n aP gY gP) (n aa (n b5 (f dm) (f dU)) (n b6 (f aa) z))) (n (ar P) (n aa (n aa (f cY) (f aa)) (n aa (f dn) z)) (n bh (n cu (f dp) z) (n ab (f dV) z))))) (n fX (n au (n av (n aa (n bo (f ab) (f eC)) (n b7 (f dD) z)) (n aa gO gE)) (n ab (n aW (n aa (f cZ) (f ab)) (n aa (f dq) z)) (n aa (n (cv P) (f c0) z) (n cM (f dW) z)))) (n aw (n aa (n aa (n aa (f dr) (f aa)) (n aa (f ds) z)) (n ba (n (bH P) (f ab) z) (n aa (f eG) z))) (n aF (n aa (n bI (f c1) (f eH)) (n cw (f (dt [(d P "__module__" 666 (v "patchkin.desk" 605)),(d P "__qualname__" 668 (v "Desk" 667)),(d P "__firstlineno__" 670 (vi 217 669)),(d P "__init__" 677 (r 359)),(d P "begin" 685 (r 366)),(d P "stores" 692 (r 373)),(d P "patches" 699 (r 380)),(d P "has" 705 (r 385)),(d P "record" 711 (r 390)),(d P "cut" 717 (r 395)),(d P "back" 727 (r 402)),(d P "take" 733 (r 407)),(d P "drop" 743 (r 414)),(d P "leans" 749 (r 419))] 14)) z)) (n aa gE (n aa (f dX) z)))))) (n (boot_o_6 P) (n (boot_o_10 P) (n aa (n aa (n aQ (n bi (f cx) (f aa)) (n b8 (f du) z)) (n ac (n b9 (f c2) (f dY)) (n ca (f ab) z))) (n (aG P) (n aR (n ac (f aa) (f dZ)) (n ab (f dE) z)) (n bj (n aa (f c3) z) (n cy (f aa) z)))) (n aH (n ab (n ac (n bv (f (dv P)) (f d0)) (n cb (f aa) z)) (n a4 (n bJ (f c4) z) (n ab (f d1) z))) (n ax (n a5 (n bz (f dw) (f d2)) (n cc (f aa) z)) (n ac gP (n cz (f eP) z))))) (n af (n aa (n aI (n aJ (n ac (f cA) (f d3)) (n cB (f dx) z)) (n bb (n bK (f c5) (f eR)) (n cC (f d4) z))) (n aK (n ac (n bL (f aa) (f d5)) (n cd (f ab) z)) (n bc (n cD (f c6) z) (n cE (f aa) z)))) (n ab (n ay (n aX (n bp (f dy) (f d6)) (n cF (f aa) z)) (n ac (n bM (f aa) z) (n cG (f d7) z))) (n ac (n aY (n ac (f ab) (f d8)) (n ce (f (l3 [(219,4,358),(224,4,365),(230,4,372),(233,4,379),(236,4,384),(240,4,389),(250,4,394),(259,4,401),(265,4,406),(275,4,413),(283,4,418),(287,4,423)])) z)) (n bq (n cf (f dz) z) (n cH (f ab) z)))))))
theorem te5115926184021590331:tw5115926184021590331=tw5115926184021590331:=rfl
def tw2709887686367605499:Params→BT:=fun P=>n (boot_o_0 P) (n (boot_o_1 P) (n (gp P) (n (boot_o_7 P) (n aa (n az (n (aL P) (f bk) z) (n aZ (f (bO P)) z)) (n ag (n aS (f br) z) (n (bd P) (f bA) z))) (n ab (n ah (n aM (f (bs P)) z) (n a6 (f aa) z)) (n aa (n (a0 P) (f bB) z) (f be)))) (n aa (n aA (n ab (n aN (f bl) z) (n (a7 P) (f bT) z)) (n aa (n aT (f (bC P)) z) (f bf))) (n ai (n aj (n (aU P) (f bt) z) (n a8 (f bD) z)) (n aB (n a1 (f bE) z) (f (bm P)))))) (n (boot_o_5 P) (n (boot_o_9 P) (n ak (n al (n ab (f (bg P)) z) (n ad (f bZ) z)) (n ac (n (aO P) (f ad) z) (n ab (f b0) z))) (n aa (n aa (n ad (f ab) z) (n (a2 P) (f bF) z)) (n bw (n ab (f (bx P)) z) (f ad)))) (n ae (n am (n aa (n (aC P) (f ad) z) gP) (n aD (n ad (f ab) z) (f (a9 P)))) (n aa (n aE (n ab (f (bn P)) z) (n ad (f bG) z)) (n ad (n (aV P) (f aa) z) (f ab)))))) (n (boot_o_2 P) (n (boot_o_4 P) (n (boot_o_8 P) (n ab (n an gE (n a3 (f aa) z)) (n ao (n aa (f bu) z) (n aa (f b4) z))) (n ap (n aq (n aP (f aa) z) (n aa (f b5) z)) (n (ar P) gE (f bh)))) (n (l3 [(1,0,20),(5,0,27),(13,0,32),(18,0,39),(23,0,46),(34,0,53),(36,0,66),(38,0,78),(40,0,90),(42,0,102),(44,0,114),(46,0,126),(48,0,138),(50,0,150),(53,0,162)]) (n au (n av (n aa (f bo) z) gE) (n ab (n aW (f aa) z) (f aa))) (n aw (n aa gE (n ba (f (bH P)) z)) (n aF (n aa (f bI) z) (f aa))))) (n (boot_o_6 P) (n (boot_o_10 P) (n aa (n aa (n aQ (f bi) z) (n ac (f b9) z)) (n (aG P) (n aR (f ac) z) (f bj))) (n aH (n ab (n ac (f bv) z) (n a4 (f bJ) z)) (n ax (n a5 (f bz) z) (f ac)))) (n af (n aa (n aI (n aJ (f ac) z) (n bb (f bK) z)) (n aK (n ac (f bL) z) (f bc))) (n ab (n ay (n aX (f bp) z) (n ac (f bM) z)) (n ac (n aY (f ac) z) (f bq))))))
theorem te2709887686367605499:tw2709887686367605499=tw2709887686367605499:=rfl
def tw5974151822951970909:Params→BT:=fun P=>n (boot_o_0 P) (n (boot_o_1 P) (n (gr P) (n (boot_o_7 P) (n aa (n az (n (aL P) (n bk (f aa) (f d9)) (n bN (f c7) (f aa))) (n aZ (n (bO P) (f cN) (f aa)) (n aa (f ea) (f eb)))) (n ag (n aS (n br (f aa) (f aa)) (n bP (f ab) (f aa))) (n (bd P) (n bA (f c8) (f ec)) (n cg (f aa) (f e0))))) (n ab (n ah (n aM (n (bs P) (f ch) (f aa)) (n aa (f aa) (f ed))) (n a6 (n aa (f aa) (f dF)) (n bQ (f dG) (f aa)))) (n aa (n (a0 P) (n bB (f ab) (f dH)) (n bR (f dA) (f ab))) (n be (n ci (f c9) (f ee)) (n aa (f ab) (f e1)))))) (n aa (n aA (n ab (n aN (n bl (f aa) (f ab)) (n bS (f aa) (f aa))) (n (a7 P) (n bT (f cO) (f dI)) (n bU (f dJ) (f ef)))) (n aa (n aT (n (bC P) (f da) (f aa)) (n bV (f db) (f e3))) (n bf (n ac (f (cP P)) (f eg)) (n aa (f eh) (f (ei P)))))) (n ai (n aj (n (aU P) (n bt (f aa) (f dK)) (n bW (f dB) (f aa))) (n a8 (n bD (f aa) (f ej)) (n cj (f aa) (f aa)))) (n aB (n a1 (n bE (f cQ) (f aa)) (n aa (f ac) (f ek))) (n (bm P) (n bX (f dc) (f el)) (n ck (f dL) z)))))) (n (boot_o_5 P) (n (boot_o_9 P) (n ak (n al (n ab (n (bg P) (f cm) (f dM)) (n (bY P) (f ab) (f em))) (n ad (n bZ (f df) (f en)) (n cn (f aa) (f e6)))) (n ac (n (aO P) (n ad (f cR) (f dN)) (n aa (f aa) (f eo))) (n ab (n b0 (f cS) (f ab)) (n ab (f dO) (f ep))))) (n aa (n aa (n ad (n ab (f ac) (f eq)) (n cp (f dg) (f ab))) (n (a2 P) (n bF (f cT) (f aa)) (n aa (f ab) (f er)))) (n bw (n ab (n (bx P) (f aa) (f ab)) (n ab (f dh) (f aa))) (n ad (n aa (f aa) (f fb)) (n cI (f aa) z))))) (n ae (n am (n aa (n (aC P) (n ad (f cJ) (f dP)) (n cq (f di) (f fe))) (n ab gM (n ab (f es) (f ab)))) (n aD (n ad (n ab (f cU) (f et)) (n cr (f aa) (f eu))) (n (a9 P) (n aa (f cV) (f aa)) (n cs (f dQ) (f ev))))) (n aa (n aE (n ab (n (bn P) (f dj) (f ab)) (n ab (f dk) (f ew))) (n ad (n bG (f cW) (f fi)) (n cK (f dR) (f ex)))) (n ad (n (aV P) (n aa (f aa) (f dS)) (n b1 (f aa) (f aa))) (n ab (n ct (f dC) (f ab)) (n ab (f aa) z))))))) (n (boot_o_2 P) (n (boot_o_4 P) (n (boot_o_8 P) (n ab (n an (n aa (n aa (f cL) (f dT)) (n b2 (f aa) (f fk))) (n a3 gY (n ab (f ey) (f aa)))) (n ao (n aa (n bu (f ab) (f ez)) (n b3 (f dl) (f ab))) (n aa (n b4 (f cX) (f aa)) (n aa (f ab) (f eA))))) (n ap (n aq (n aP gY (n ab (f ab) (f aa))) (n aa (n b5 (f dm) (f dU)) (n b6 (f aa) (f fm)))) (n (ar P) (n aa (n aa (f cY) (f aa)) (n aa (f dn) (f eB))) (n bh (n cu (f dp) (f aa)) (n ab (f dV) (f fp)))))) (n fX (n au (n av (n aa (n bo (f ab) (f eC)) (n b7 (f dD) (f ab))) (n aa gO gO)) (n ab (n aW (n aa (f cZ) (f ab)) (n aa (f dq) (f eD))) (n aa (n (cv P) (f c0) (f eE)) (n cM (f dW) (f eF))))) (n aw (n aa (n aa (n aa (f dr) (f aa)) (n aa (f ds) (f fs))) (n ba (n (bH P) (f ab) (f aa)) (n aa (f eG) (f ab)))) (n aF (n aa (n bI (f c1) (f eH)) (n cw (f (ft P)) (f eI))) (n aa gO (n aa (f dX) z)))))) (n (boot_o_6 P) (n (boot_o_10 P) (n aa (n aa (n aQ (n bi (f cx) (f aa)) (n b8 (f du) (f eJ))) (n ac (n b9 (f c2) (f dY)) (n ca (f ab) (f eK)))) (n (aG P) (n aR (n ac (f aa) (f dZ)) (n ab (f dE) (f aa))) (n bj (n aa (f c3) (f fz)) (n cy (f aa) (f eL))))) (n aH (n ab (n ac (n bv (f (dv P)) (f d0)) (n cb (f aa) (f eM))) (n a4 (n bJ (f c4) (f ab)) (n ab (f d1) (f eN)))) (n ax (n a5 (n bz (f dw) (f d2)) (n cc (f aa) (f fB))) (n ac (n ab (f ab) (f eO)) (n cz (f eP) z))))) (n af (n aa (n aI (n aJ (n ac (f cA) (f d3)) (n cB (f dx) (f eQ))) (n bb (n bK (f c5) (f eR)) (n cC (f d4) (f eS)))) (n aK (n ac (n bL (f aa) (f d5)) (n cd (f ab) (f aa))) (n bc (n cD (f c6) (f ab)) (n cE (f aa) (f eT))))) (n ab (n ay (n aX (n bp (f dy) (f d6)) (n cF (f aa) (f eU))) (n ac (n bM (f aa) (f eV)) (n cG (f d7) (f aa)))) (n ac (n aY (n ac (f ab) (f d8)) (n ce (f fI) (f ab))) (n bq (n cf (f dz) (f eW)) (n cH (f ab) z)))))))
theorem te5974151822951970909:tw5974151822951970909=tw5974151822951970909:=rfl
def tw17468357941130105245:Params→BT:=fun P=>n (boot_o_0 P) (n (boot_o_1 P) (n (gs P) (n (boot_o_7 P) (n aa (n az (n (aL P) (f bk) (f bN)) (n aZ (f (bO P)) (f aa))) (n ag (n aS (f br) (f bP)) (n (bd P) (f bA) z))) (n ab (n ah (n aM (f (bs P)) (f aa)) (n a6 (f aa) (f bQ))) (n aa (n (a0 P) (f bB) (f bR)) (n be (f ci) z)))) (n aa (n aA (n ab (n aN (f bl) (f bS)) (n (a7 P) (f bT) (f bU))) (n aa (n aT (f (bC P)) (f bV)) (n bf (f ac) z))) (n ai (n aj (n (aU P) (f bt) (f bW)) (n a8 (f bD) z)) (n aB (n a1 (f bE) (f aa)) (n (bm P) (f bX) z))))) (n (boot_o_5 P) (n (boot_o_9 P) (n ak (n al (n ab (f (bg P)) (f (bY P))) (n ad (f bZ) (f cn))) (n ac (n (aO P) (f ad) (f aa)) (n ab (f b0) z))) (n aa (n aa (n ad (f ab) (f cp)) (n (a2 P) (f bF) z)) (n bw (n ab (f (bx P)) (f ab)) (n ad (f aa) z)))) (n ae (n am (n aa (n (aC P) (f ad) (f cq)) gM) (n aD (n ad (f ab) (f cr)) (n (a9 P) (f aa) z))) (n aa (n aE (n ab (f (bn P)) (f ab)) (n ad (f bG) z)) (n ad (n (aV P) (f aa) (f b1)) (n ab (f ct) z)))))) (n (boot_o_2 P) (n (boot_o_4 P) (n (boot_o_8 P) (n ab (n an (n aa (f aa) (f b2)) (n a3 (f aa) (f ab))) (n ao (n aa (f bu) (f b3)) (n aa (f b4) z))) (n ap gN (n (ar P) gO (n bh (f cu) z)))) (n (l3 [(1,0,20),(5,0,27),(13,0,32),(18,0,39),(23,0,46),(34,0,53),(36,0,66),(38,0,78),(40,0,90),(42,0,102),(44,0,114),(46,0,126),(48,0,138),(50,0,150),(53,0,162),(60,0,183),(68,0,202),(74,0,207),(79,0,214),(88,0,221),(94,0,226),(101,0,231)]) (n au (n av (n aa (f bo) (f b7)) gO) (n ab (n aW (f aa) (f aa)) (n aa (f (cv P)) z))) (n aw (n aa gO (n ba (f (bH P)) z)) (n aF (n aa (f bI) (f cw)) gE)))) (n (boot_o_6 P) (n (boot_o_10 P) (n aa (n aa (n aQ (f bi) (f b8)) (n ac (f b9) (f ca))) (n (aG P) (n aR (f ac) (f ab)) (n bj (f aa) z))) (n aH (n ab (n ac (f bv) (f cb)) (n a4 (f bJ) z)) (n ax (n a5 (f bz) (f cc)) (n ac (f ab) z)))) (n af (n aa (n aI (n aJ (f ac) (f cB)) (n bb (f bK) (f cC))) (n aK (n ac (f bL) (f cd)) (n bc (f cD) z))) (n ab (n ay (n aX (f bp) (f cF)) (n ac (f bM) z)) (n ac (n aY (f ac) (f ce)) (n bq (f cf) z))))))
theorem te17468357941130105245:tw17468357941130105245=tw17468357941130105245:=rfl
def tw17635222274817542846:Params→BT:=fun P=>n (boot_o_0 P) (n (boot_o_1 P) (n (gu P) (n (boot_o_7 P) (n aa (f az) (f ag)) (n ab (f ah) (f aa))) (n aa (n aA (f ab) (f aa)) (n ai (f aj) (f aB)))) (n (boot_o_5 P) (n (boot_o_9 P) (n ak (f al) (f ac)) (n aa (f aa) (f (ty (cl (S "PatchError") [(w "ValueError")] [(r 57),(w "ValueError"),(w "Exception"),(w "BaseException"),(w "object")] 56 (S "PatchError") true [] [] false none false) [(k (r 48)),none,(k (v "PatchError" 238)),(k (v "PatchError" 246)),(k (b "ValueError.__new__")),(k (vl true))])))) (n ae (n am (f aa) (f aD)) (n aa (f aE) z)))) (n (boot_o_2 P) (n (boot_o_4 P) (n (boot_o_8 P) (n ab (f an) (f ao)) (n ap (f aq) (f (ar P)))) (n (l3 [(1,0,20),(5,0,27),(13,0,32),(18,0,39),(23,0,46),(34,0,53)]) (n au (f av) (f ab)) (n aw (f aa) (f aF)))) (n (boot_o_6 P) (n (boot_o_10 P) (n aa (f aa) (f (aG P))) (n aH (f ab) (f ax))) (n af (n aa (f aI) (f aK)) (n ab (f ay) z))))
theorem te17635222274817542846:tw17635222274817542846=tw17635222274817542846:=rfl
def tw8633828633029810174:Params→BT:=fun P=>n (boot_o_0 P) (n (boot_o_1 P) (n (gx P) (n (boot_o_7 P) (n aa (n az (f (aL P)) (f aZ)) (n ag (f aS) z)) (n ab (n ah (f aM) z) (n aa (f (a0 P)) z))) (n aa gJ (n ai (n aj (f (aU P)) z) (n aB (f a1) z)))) (n (boot_o_5 P) (n (boot_o_9 P) (n ak (n al (f ab) z) (n ac (f (aO P)) z)) (n aa (n aa (f ad) z) (n (ty (cl (S "PatchError") [(w "ValueError")] [(r 57),(w "ValueError"),(w "Exception"),(w "BaseException"),(w "object")] 56 (S "PatchError") true [] [(r 70),(r 82),(r 94)] false none false) [(k (r 48)),none,(k (v "PatchError" 238)),(k (v "PatchError" 246)),(k (b "ValueError.__new__")),(k (vl true))]) (f ab) z))) (n ae (n am (n aa (f (aC P)) z) (n aD (f ad) z)) (n aa (n aE (f ab) z) (n ad (f (aV P)) z))))) (n (boot_o_2 P) (n (boot_o_4 P) (n (boot_o_8 P) gV (n ap (n aq (f aP) z) (n (ar P) (f aa) z))) (n (l3 [(1,0,20),(5,0,27),(13,0,32),(18,0,39),(23,0,46),(34,0,53),(36,0,66),(38,0,78),(40,0,90)]) gK (n aw gE (n aF (f aa) z)))) (n (boot_o_6 P) (n (boot_o_10 P) (n aa (n aa (f aQ) z) (n (aG P) (f aR) z)) (n aH gL (n ax (f a5) z))) (n af (n aa (n aI (f aJ) z) (n aK (f ac) z)) gW)))
theorem te8633828633029810174:tw8633828633029810174=tw8633828633029810174:=rfl
def tw9348175703931885370:Params→Heap:=fun P=>Heap.mk #[boot_o_0 P,boot_o_1 P,boot_o_2 P,boot_o_3 P,boot_o_4 P,boot_o_5 P,boot_o_6 P,boot_o_7 P,boot_o_8 P,boot_o_9 P,boot_o_10 P,aa,ab,ae,af] (Life.mk [] [] [] 0 [] [] false #[] [] 0 false false false 0 [2000,10,10] false 0 true [] [] 0 false)
theorem te9348175703931885370:tw9348175703931885370=tw9348175703931885370:=rfl
def tw15928609332224174590:Params→Heap:=fun P=>Heap.mk #[boot_o_0 P,boot_o_1 P,boot_o_2 P,eX P,boot_o_4 P,boot_o_5 P,boot_o_6 P,boot_o_7 P,boot_o_8 P,boot_o_9 P,boot_o_10 P,aa,fT,ae,af,aa,ab,ak,aa,aA,au,am,aa,ab,ap,aa,aH,ai,aw,aa,ab,az,an,al,aa,ab,av,aa,aI,ah,aq,aa,ab,aj,aa,aE,ay,ag,ao,ac,aG P,aa,ab,aD,aK,aa,ar P,bw,ax,aB,aF,ad,ac,aL P,aa,ab,aQ,aN,aa,aC P,aJ,aM,aP,ad,ac,aU P,aa,ab,aX,aS,aa,aO P,aR,aT,aW,ad,ac,a0 P,aa,ab,a5,a1,aa,aV P,aY,aZ,a3,ad,ac,a7 P,aa,ab,bb,a6,aa,a2 P,a4,a8,ba,ad,ac,bd P,aa,ab,bj,bf,aa,a9 P,bc,be,bh,ad,ac,bm P,aa,ab,bq,bk,aa,bg P,bi,bl,bo,ad,ac,bs P,aa,ab,bv,bt,aa,bn P,bp,br,bu,ad,ac,bC P,aa,ab,bL,bB,aa,bx P,bz,bE,bI,aa,ac,bO P,aa,bZ,b9,bT,aa,ab,bK,aa,b5,bF,bJ,bD,bH P,bG,bM,bA,b4,b0,aa,ac,cv P,aa,cD,ci,cu,aa,ab,bX,aa,ct,cf,bN,b2,bY P,b8,bS,b7,cq,cB,aa,ab,cp,cb,bW,aa,ab,cF,bP,b3,aa,ab,bV,aa,cr,cd,bR,aa,ab,cc,aa,cw,b1,ce,aa,ab,cn,ca,bU,aa,ab,cC,bQ,b6,aa,ab,cj,aa,cK,cG,cg,aa,ab,cy,aa,cM,cs,cE,aa,ab,cI,cz,ck,aa,ab,cH,aa,cL,cm,cx,aa,ab,cJ,cA,ch,aa,ac,dv P,aa,dr,dj,dy,aa,ab,cR,aa,da,cZ,cU,aa,ab,cY,aa,dw,cQ,c1,aa,ab,cN,aa,df,c2,cO,aa,ab,c5,aa,dm,cT,c4,aa,ab,cW,aa,c8,cX,cS,c3,cP P,c0,cV,c6,c9,dp,aa,ab,dc,aa,dC,dz,c7,aa,ab,du,aa,dD,di,dx,aa,ab,dg,aa,dB,ds,dk,aa,ab,dl,aa,dE,db,dq,aa,ab,dA,dn,dh,aa,ac,ft P,aa,fI,ea,ey,aa,ab,dJ,aa,es,d4,dG,aa,ab,d1,aa,eG,dR,d7,aa,ab,dO,aa,eh,dW,dQ,aa,ab,dV,aa,eP,dL,dX,aa,ab,d9,dT,dM,aa,ab,eC,dP,d3,aa,ab,eq,d0,dK,aa,ab,d6,aa,ez,dN,dZ,aa,ab,et,d5,dH,aa,ab,d2,aa,eH,dS,d8,aa,ab,en,dY,dI,aa,ab,eR,dF,dU,aa,ab,ej,aa,fi,eV,ec,aa,ab,fz,eg,eE,aa,ab,ee,aa,fb,eO,el,aa,ab,eW,aa,fk,em,eJ,aa,ab,fe,eQ,ed,aa,ab,eM,aa,fs,ew,eU,aa,ab,eo,aa,e3,eD,eu,aa,ab,eB,aa,fB,ek,eI,aa,ab,eb,aa,e6,eK,ef,aa,ab,eS,aa,fm,er,eN,aa,ab,ex,aa,e0,eA,ep,eL,ei P,eF,ev,eT,e1,fp,aa,ab,e5,aa,fQ,fJ,eY,aa,ab,fu,aa,fU,fc,fD,aa,ab,e8,aa,fM,fq,fh,aa,ab,fR,e7,fx,aa,ab,ff,aa,fL,fo,fa,aa,ab,fW,fj,fH,aa,ab,fN,fw,e2,aa,ab,fE,aa,fS,e9,fA,aa,ab,fP,fG,eZ,aa,ab,fy,aa,fV,fg,fF,aa,ab,fv "law" "law" (x 51),fC,e4] (Life.mk [] [] [] 0 [] [] false #[] [] 0 false false false 0 [2000,10,10] false 0 true [] [] 0 false)
theorem te15928609332224174590:tw15928609332224174590=tw15928609332224174590:=rfl
def tw8812575620901371730:Params→Frag:=fun P=>[(2,boot_o_2 P),(3,eX P),(15,aa),(17,ak),(18,aa),(20,au),(21,am),(22,aa),(24,ap),(25,aa),(27,ai),(28,aw),(29,aa),(32,an),(33,al),(34,aa),(36,av),(37,aa),(39,ah),(40,aq),(41,aa),(43,aj),(44,aa),(46,ay),(47,ag),(48,ao),(55,aa),(56,ar P),(57,bw),(58,ax),(61,ad),(68,aa),(69,aC P),(70,aJ),(73,ad),(80,aa),(81,aO P),(82,aR),(85,ad),(92,aa),(93,aV P),(94,aY),(97,ad),(104,aa),(105,a2 P),(106,a4),(109,ad),(116,aa),(117,a9 P),(118,bc),(121,ad),(128,aa),(129,bg P),(130,bi),(133,ad),(140,aa),(141,bn P),(142,bp),(145,ad),(152,aa),(153,bx P),(154,bz),(164,aa),(166,bK),(167,aa),(169,bF),(170,bJ),(171,bD),(172,bH P),(173,bG),(174,bM),(175,bA),(185,aa),(187,bX),(188,aa),(190,cf),(191,bN),(192,b2),(193,bY P),(194,b8),(195,bS),(196,b7),(199,aa),(202,cb),(203,bW),(204,aa),(207,bP),(208,b3),(209,aa),(211,bV),(212,aa),(214,cd),(215,bR),(216,aa),(218,cc),(219,aa),(221,b1),(222,ce),(223,aa),(226,ca),(227,bU),(228,aa),(231,bQ),(232,b6),(233,aa),(235,cj),(236,aa),(238,cG),(239,cg),(240,aa),(242,cy),(243,aa),(245,cs),(246,cE),(247,aa),(250,cz),(251,ck),(252,aa),(254,cH),(255,aa),(257,cm),(258,cx),(259,aa),(262,cA),(263,ch),(271,aa),(273,cR),(274,aa),(276,cZ),(277,cU),(278,aa),(280,cY),(281,aa),(283,cQ),(284,c1),(285,aa),(287,cN),(288,aa),(290,c2),(291,cO),(292,aa),(294,c5),(295,aa),(297,cT),(298,c4),(299,aa),(301,cW),(302,aa),(304,cX),(305,cS),(306,c3),(307,cP P),(308,c0),(309,cV),(310,c6),(313,aa),(315,dc),(316,aa),(318,dz),(319,c7),(320,aa),(322,du),(323,aa),(325,di),(326,dx),(327,aa),(329,dg),(330,aa),(332,ds),(333,dk),(334,aa),(336,dl),(337,aa),(339,db),(340,dq),(341,aa),(344,dn),(345,dh),(353,aa),(355,dJ),(356,aa),(358,d4),(359,dG),(360,aa),(362,d1),(363,aa),(365,dR),(366,d7),(367,aa),(369,dO),(370,aa),(372,dW),(373,dQ),(374,aa),(376,dV),(377,aa),(379,dL),(380,dX),(381,aa),(384,dT),(385,dM),(386,aa),(389,dP),(390,d3),(391,aa),(394,d0),(395,dK),(396,aa),(398,d6),(399,aa),(401,dN),(402,dZ),(403,aa),(406,d5),(407,dH),(408,aa),(410,d2),(411,aa),(413,dS),(414,d8),(415,aa),(418,dY),(419,dI),(420,aa),(423,dF),(424,dU),(425,aa),(427,ej),(428,aa),(430,eV),(431,ec),(432,aa),(435,eg),(436,eE),(437,aa),(439,ee),(440,aa),(442,eO),(443,el),(444,aa),(446,eW),(447,aa),(449,em),(450,eJ),(451,aa),(454,eQ),(455,ed),(456,aa),(458,eM),(459,aa),(461,ew),(462,eU),(463,aa),(465,eo),(466,aa),(468,eD),(469,eu),(470,aa),(472,eB),(473,aa),(475,ek),(476,eI),(477,aa),(479,eb),(480,aa),(482,eK),(483,ef),(484,aa),(486,eS),(487,aa),(489,er),(490,eN),(491,aa),(493,ex),(494,aa),(496,eA),(497,ep),(498,eL),(499,ei P),(500,eF),(501,ev),(502,eT),(505,aa),(507,e5),(508,aa),(510,fJ),(511,eY),(512,aa),(514,fu),(515,aa),(517,fc),(518,fD),(519,aa),(521,e8),(522,aa),(524,fq),(525,fh),(526,aa),(529,e7),(530,fx),(531,aa),(533,ff),(534,aa),(536,fo),(537,fa),(538,aa),(541,fj),(542,fH),(543,aa),(546,fw),(547,e2),(548,aa),(550,fE),(551,aa),(553,e9),(554,fA),(555,aa),(558,fG),(559,eZ),(560,aa),(562,fy),(563,aa),(565,fg),(566,fF),(567,aa),(570,fC),(571,e4)]
theorem te8812575620901371730:tw8812575620901371730=tw8812575620901371730:=rfl
def tw6782192467646664804:List Stmt:=[x 8]
theorem te6782192467646664804:tw6782192467646664804=tw6782192467646664804:=rfl
def tw16191871069470953926:List Stmt:=[x 15,x 16]
theorem te16191871069470953926:tw16191871069470953926=tw16191871069470953926:=rfl
def tw3963317322320936937:List Stmt:=[x 17]
theorem te3963317322320936937:tw3963317322320936937=tw3963317322320936937:=rfl
def tw4352530912658179501:List Stmt:=[x 12]
theorem te4352530912658179501:tw4352530912658179501=tw4352530912658179501:=rfl
def tw2642057904166310765:List Stmt:=[x 10]
theorem te2642057904166310765:tw2642057904166310765=tw2642057904166310765:=rfl
def tw15702037229330970541:List Stmt:=[x 14]
theorem te15702037229330970541:tw15702037229330970541=tw15702037229330970541:=rfl
def tw10843533738271610096:List Stmt:=[x 25,x 26,x 27,x 28,x 29]
theorem te10843533738271610096:tw10843533738271610096=tw10843533738271610096:=rfl
def tw13194820897026310162:List Stmt:=[x 11]
theorem te13194820897026310162:tw13194820897026310162=tw13194820897026310162:=rfl
def tw6687250590273288308:List Stmt:=[x 34,x 35,x 36,x 37,x 38]
theorem te6687250590273288308:tw6687250590273288308=tw6687250590273288308:=rfl
def tw16454831743810903349:List Stmt:=[x 39]
theorem te16454831743810903349:tw16454831743810903349=tw16454831743810903349:=rfl
def tw12388905443870066005:List Stmt:=[x 13]
theorem te12388905443870066005:tw12388905443870066005=tw12388905443870066005:=rfl
def tw7158799837191554839:List Stmt:=[x 9]
theorem te7158799837191554839:tw7158799837191554839=tw7158799837191554839:=rfl
def tw8883827454889501401:List Stmt:=[x 18,x 19,x 20,x 21,x 22,x 23,x 24]
theorem te8883827454889501401:tw8883827454889501401=tw8883827454889501401:=rfl
def tw12704682329215577179:List Stmt:=[x 30,x 31,x 32,x 33]
theorem te12704682329215577179:tw12704682329215577179=tw12704682329215577179:=rfl
def tw18437414495599605307:List Stmt:=[x 0,x 1,x 2,x 3,x 4,x 5,x 6,x 7]
theorem te18437414495599605307:tw18437414495599605307=tw18437414495599605307:=rfl
def tw3163130928195949342:List Stmt:=[x 40,x 41,x 42,x 43,x 44,x 45,x 46,x 47,x 48,x 49,x 50,x 51]
theorem te3163130928195949342:tw3163130928195949342=tw3163130928195949342:=rfl
def tw14783520243766246871:Program:={PySem.Challenge.pw_patchkin_k06_what_a_patch_leans_on with main:={PySem.Challenge.pw_patchkin_k06_what_a_patch_leans_on.main with body:=[x 0,x 2,x 3,x 4,x 5,x 7,x 8,x 9,x 10,x 11,x 12,x 13,x 14,x 15,x 17,x 18,x 19,x 20,x 21,x 22,x 23,x 24,x 25,x 26,x 27,x 28,x 29,x 30,x 32,x 33,x 34,x 35,x 36,x 37,x 38,x 39,x 41,x 42,x 43,x 44,x 45,x 46,x 47,x 48,x 49,x 50,x 51]}}
theorem te14783520243766246871:tw14783520243766246871=tw14783520243766246871:=rfl
end
end PySem.W.Fast
namespace PK
open PySem L2
theorem all_mk{l:W.OpenLaw}{w:World}{K:Qqy}{h:Heap}{mg:Qqx}{fa f0 f1 f2 f3 f4 f5 f6 f7 f8 f9 Zm Zn Zo Zp Zq Zr Zs Zt Zu Zv Zw Zx Zy Zz ZA ZC ZD ZE ZF ZG f30 ZH ZI ZJ ZK ZL ZM ZN ZO ZP ZQ ZR ZS ZT ZU ZV ZW ZX ZY ZZ Z0 Z1 Z2 Z3 Z4 Z5 Z6 Z7 g_ gz ib gj jr jj i6 iL gk lU j4 qt oW:Addr}{nM lV:Tok}(X:K.In h)(G:h.Ns mainGlobals mg)(hfa:mg "law"=some (.ref fa))
  (CM:W.nsIn K mainGlobals "Line"=some (some (.ref g_)))
  (Ae:W.nsIn K mainGlobals "Patch"=some (some (.ref gz)))
  (Af:W.nsIn K mainGlobals "Sight"=some (some (.ref ib)))
  (CN:W.nsIn K mainGlobals "Desk"=some (some (.ref gj)))
  (h0:FI K "counts_with" o5 f0)
  (h1:FI K "most_pairs" qf f1)
  (h2:FI K "place_from" qg f2)
  (h3:FI K "kept" Fx f3)
  (h4:FI K "lines_named_by" kK f4)
  (h5:FI K "leans_straight_on" jS f5)
  (h6:FI K "live_patches" nV f6)
  (h7:FI K "lines_put" rn f7)
  (h8:FI K "standing_lines" kL f8)
  (h9:FI K "files_with_lines" nX f9)
  (TC:FI K "straight_ahead" me Zm)
  (Se:FI K "joined" zo Zn)
  (W5:FI K "all_ahead" oH Zo)
  (W6:FI K "first_free" qh Zp)
  (W8:FI K "row_of" uZ Zq)
  (W9:FI K "check_name" qi Zr)
  (W_:FI K "check_places" nY Zs)
  (Xa:FI K "kept_behind" o6 Zt)
  (Xb:FI K "new_lines" rp Zu)
  (Xc:FI K "changing_patch" jZ Zv)
  (TF:FI K "_law_cell_at" n4 Zw)
  (Sf:FI K "_law_draw" rC Zx)
  (Xd:FI K "_law_name" rD Zy)
  (Xe:FI K "_law_text" oK Zz)
  (Xf:FI K "_law_edit" rE ZA)
  (Xg:FI K "_law_deed" oM ZC)
  (Xh:FI K "_law_desk" mJ ZD)
  (Xi:FI K "_law_names_are" ml ZE)
  (Xj:FI K "_law_straight" ke ZF)
  (Xk:FI K "_law_refused" n5 ZG)
  (Xl:FI K "law" Bl f30)
  (Xm:MI K g_ "__init__" "Line.__init__" mY ZH)
  (Xn:MI K gz "__init__" "Patch.__init__" ma ZI)
  (Xo:MI K ib "__init__" "Sight.__init__" mf ZJ)
  (Xp:MI K ib "is_ahead" "Sight.is_ahead" mi ZK)
  (Xq:MI K ib "quarrelling" "Sight.quarrelling" kT ZL)
  (Xr:MI K gj "__init__" "Desk.__init__" mZ ZM)
  (Xs:MI K gj "begin" "Desk.begin" qj ZN)
  (Xt:MI K gj "stores" "Desk.stores" tE ZO)
  (Xu:MI K gj "patches" "Desk.patches" nZ ZP)
  (TH:MI K gj "has" "Desk.has" qk ZQ)
  (Sh:MI K gj "record" "Desk.record" mz ZR)
  (Xv:MI K gj "cut" "Desk.cut" ql ZS)
  (Xw:MI K gj "back" "Desk.back" rq ZT)
  (Xx:MI K gj "take" "Desk.take" oI ZU)
  (Xy:MI K gj "drop" "Desk.drop" rA ZV)
  (Xz:MI K gj "leans" "Desk.leans" nI ZW)
  (XA:MI K gj "told" "Desk.told" oJ ZX)
  (XC:MI K gj "files" "Desk.files" u0 ZY)
  (XD:MI K gj "row" "Desk.row" qm ZZ)
  (TJ:MI K gj "quarrels" "Desk.quarrels" m_ Z0)
  (Si:MI K gj "patches_of" "Desk.patches_of" kl Z1)
  (XE:MI K gj "sight_of" "Desk.sight_of" nc Z2)
  (XF:MI K gj "check_store" "Desk.check_store" lr Z3)
  (XG:MI K gj "check_made" "Desk.check_made" lQ Z4)
  (XH:MI K gj "check_held" "Desk.check_held" lR Z5)
  (XI:MI K gj "check_new" "Desk.check_new" mj Z6)
  (XJ:MI K gj "keep" "Desk.keep" rB Z7)
  (CO:W.plainGet K g_ Str.empty=true)
  (CP:W.hasDictIn K g_=true)
  (CQ:W.plainOver K g_=true)
  (CS:W.findIn K (.ref g_) "__setattr__"=some (some (.builtin "object.__setattr__")))
  (CT:W.makesIn K g_=true)
  (CU:W.keepIn K (.ref g_)=true)
  (hE:W.findIn K (.ref g_) "name"=some none)
  (js:W.findIn K (.ref g_) "text"=some none)
  (iz:W.findIn K (.ref g_) "upper_name"=some none)
  (iA:W.findIn K (.ref g_) "lower_name"=some none)
  (Ag:W.plainGet K gz Str.empty=true)
  (Ai:W.hasDictIn K gz=true)
  (Aj:W.plainOver K gz=true)
  (Ak:W.findIn K (.ref gz) "__setattr__"=some (some (.builtin "object.__setattr__")))
  (Al:W.makesIn K gz=true)
  (Am:W.keepIn K (.ref gz)=true)
  (iY:W.findIn K (.ref gz) "name"=some none)
  (jM:W.findIn K (.ref gz) "file"=some none)
  (jv:W.findIn K (.ref gz) "puts"=some none)
  (jw:W.findIn K (.ref gz) "cuts"=some none)
  (iR:W.findIn K (.ref gz) "other"=some none)
  (An:W.plainGet K ib Str.empty=true)
  (Ao:W.hasDictIn K ib=true)
  (Ap:W.plainOver K ib=true)
  (Aq:W.findIn K (.ref ib) "__setattr__"=some (some (.builtin "object.__setattr__")))
  (Ar:W.makesIn K ib=true)
  (As:W.keepIn K (.ref ib)=true)
  (jA:W.findIn K (.ref ib) "ahead"=some none)
  (iq:W.findIn K (.ref ib) "lines"=some none)
  (CV:W.plainGet K gj Str.empty=true)
  (CW:W.hasDictIn K gj=true)
  (CY:W.plainOver K gj=true)
  (CZ:W.findIn K (.ref gj) "__setattr__"=some (some (.builtin "object.__setattr__")))
  (C0:W.makesIn K gj=true)
  (C1:W.keepIn K (.ref gj)=true)
  (iM:W.findIn K (.ref gj) "made"=some none)
  (je:W.findIn K (.ref gj) "needs"=some none)
  (iB:W.findIn K (.ref gj) "held"=some none)
  (pf:W.nsIn K mainGlobals "PatchError"=some (some (.ref jr)))
  (uo:W.nsIn K mainGlobals "BadName"=some (some (.ref jj)))
  (qD:W.nsIn K mainGlobals "NameTaken"=some (some (.ref i6)))
  (uq:W.nsIn K mainGlobals "NoStore"=some (some (.ref iL)))
  (ur:W.nsIn K mainGlobals "NoPatch"=some (some (.ref gk)))
  (xa:W.nsIn K mainGlobals "NoLine"=some (some (.ref lU)))
  (qE:W.nsIn K mainGlobals "Unsettled"=some (some (.ref j4)))
  (C2:W.nsIn K mainGlobals "Same"=some (some (.ref qt)))
  (Au:W.nsIn K mainGlobals "Leant"=some (some (.ref oW)))
  (ph:W.nsIn K mainGlobals "NAME_SIGNS"=some (some (.str (Str.ofString "abcdefghijklmnopqrstuvwxyz0123456789") nM)))
  (nv:W.nsIn K mainGlobals "LONGEST_NAME"=some (some (.int 12 lV)))
  (Kk:W.nsIn K mainGlobals "len"=some none)
  (C3:W.nsIn K mainGlobals "range"=some none)
  (Kl:W.nsIn K mainGlobals "max"=some none)
  (qF:W.nsIn K mainGlobals "isinstance"=some none)
  (Ga:W.nsIn K mainGlobals "list"=some none)
  (Km:W.nsIn K mainGlobals "str"=some none)
  (uu:W.nsIn K mainGlobals "reversed"=some none)
  (Av:W.nsIn K mainGlobals "sorted"=some none)
  (Kn:W.nsIn K mainGlobals "set"=some none)
  (sE:W.nsIn K mainGlobals "enumerate"=some none)
  (qG:W.nsIn K mainGlobals "ValueError"=some none)
  (uv:W.findIn K (.ref gk) "__getattribute__"=some (some (.builtin "BaseException.__getattribute__")))
  (uw:W.findIn K (.ref gk) "__getattr__"=some none)
  (ux:W.findIn K (.ref gk) "__class__"=some (some (.builtin "object.__class__")))
  (uy:W.mroIn K gk (.type "object")=some true)
  (uA:W.mroIn K gk (.type "BaseException")=some true)
  (pj:W.excIn K jr [.type "ValueError",.type "Exception",.type "BaseException",.type "object"] "ValueError.__new__"=true)
  (uB:W.excIn K jj [.type "ValueError",.type "Exception",.type "BaseException",.type "object"] "ValueError.__new__"=true)
  (qH:W.excIn K i6 [.type "ValueError",.type "Exception",.type "BaseException",.type "object"] "ValueError.__new__"=true)
  (uC:W.excIn K iL [.type "ValueError",.type "Exception",.type "BaseException",.type "object"] "ValueError.__new__"=true)
  (uD:W.excIn K gk [.type "ValueError",.type "Exception",.type "BaseException",.type "object"] "ValueError.__new__"=true)
  (xb:W.excIn K lU [.type "ValueError",.type "Exception",.type "BaseException",.type "object"] "ValueError.__new__"=true)
  (qI:W.excIn K j4 [.type "ValueError",.type "Exception",.type "BaseException",.type "object"] "ValueError.__new__"=true)
  (C4:W.excIn K qt [.type "ValueError",.type "Exception",.type "BaseException",.type "object"] "ValueError.__new__"=true)
  (Aw:W.excIn K oW [.type "ValueError",.type "Exception",.type "BaseException",.type "object"] "ValueError.__new__"=true)
  (jK:W.kitOne K (.ref gk) (.ref jr)=some true)
  (kr:W.kitOne K (.ref gk) (.ref jj)=some false)
  (jT:W.kitOne K (.ref gk) (.ref i6)=some false)
  (ku:W.kitOne K (.ref gk) (.ref iL)=some false)
  (ky:W.kitOne K (.ref gk) (.ref gk)=some true)
  (kO:W.kitOne K (.ref gk) (.ref lU)=some false)
  (jU:W.kitOne K (.ref gk) (.ref j4)=some false)
  (lZ:W.kitOne K (.ref gk) (.ref qt)=some false)
  (ll:W.kitOne K (.ref gk) (.ref oW)=some false)
  (uE:W.kitOne K (.ref gk) (.type "ValueError")=some true)
  (uF:(W.clsIn K gk).isSome=true)
  (sR:Fl K gk jr=true)
  (mx:Fl K gk gk=true) :
  ∃fd:FuncData,(∀(s:Shared)(v:Value),BindsTo s fd ⟨[v],[]⟩ [("script",v)])∧∀base:Heap,K.In base→base.Ns mainGlobals mg→ik l.prog w K mg base mT 20 fa fd ["script"] (GN K):=by
 obtain⟨m0,d0,F0⟩:=h0
 obtain⟨m1,d1,F1⟩:=h1
 obtain⟨m2,d2,F2⟩:=h2
 obtain⟨m3,d3,F3⟩:=h3
 obtain⟨m4,d4,F4⟩:=h4
 obtain⟨m5,d5,F5⟩:=h5
 obtain⟨m6,d6,F6⟩:=h6
 obtain⟨m7,d7,F7⟩:=h7
 obtain⟨m8,d8,F8⟩:=h8
 obtain⟨m9,d9,F9⟩:=h9
 obtain⟨m10,d10,Z8⟩:=TC
 obtain⟨m11,d11,Z9⟩:=Se
 obtain⟨m12,d12,Z_⟩:=W5
 obtain⟨m13,d13,F13⟩:=W6
 obtain⟨m14,d14,F14⟩:=W8
 obtain⟨m15,d15,F15⟩:=W9
 obtain⟨m16,d16,F16⟩:=W_
 obtain⟨m17,d17,F17⟩:=Xa
 obtain⟨m18,d18,F18⟩:=Xb
 obtain⟨m19,d19,F19⟩:=Xc
 obtain⟨m20,d20,F20⟩:=TF
 obtain⟨m21,d21,F21⟩:=Sf
 obtain⟨m22,d22,F22⟩:=Xd
 obtain⟨m23,d23,F23⟩:=Xe
 obtain⟨m24,d24,F24⟩:=Xf
 obtain⟨m25,d25,F25⟩:=Xg
 obtain⟨m26,d26,F26⟩:=Xh
 obtain⟨m27,d27,F27⟩:=Xi
 obtain⟨m28,d28,F28⟩:=Xj
 obtain⟨m29,d29,F29⟩:=Xk
 obtain⟨m30,d30,F30⟩:=Xl
 obtain⟨XM,d31,F31⟩:=Xm
 obtain⟨XN,d32,F32⟩:=Xn
 obtain⟨XO,d33,F33⟩:=Xo
 obtain⟨m34,d34,F34⟩:=Xp
 obtain⟨m35,d35,F35⟩:=Xq
 obtain⟨XQ,d36,F36⟩:=Xr
 obtain⟨m37,d37,F37⟩:=Xs
 obtain⟨m38,d38,F38⟩:=Xt
 obtain⟨m39,d39,F39⟩:=Xu
 obtain⟨m40,d40,F40⟩:=TH
 obtain⟨m41,d41,F41⟩:=Sh
 obtain⟨m42,d42,F42⟩:=Xv
 obtain⟨m43,d43,F43⟩:=Xw
 obtain⟨m44,d44,F44⟩:=Xx
 obtain⟨m45,d45,F45⟩:=Xy
 obtain⟨m46,d46,F46⟩:=Xz
 obtain⟨m47,d47,F47⟩:=XA
 obtain⟨m48,d48,F48⟩:=XC
 obtain⟨m49,d49,F49⟩:=XD
 obtain⟨m50,d50,F50⟩:=TJ
 obtain⟨m51,d51,F51⟩:=Si
 obtain⟨m52,d52,F52⟩:=XE
 obtain⟨m53,d53,F53⟩:=XF
 obtain⟨m54,d54,F54⟩:=XG
 obtain⟨m55,d55,F55⟩:=XH
 obtain⟨m56,d56,F56⟩:=XI
 obtain⟨m57,d57,F57⟩:=XJ
 have e:=hfa.symm.trans (aam X G m30)
 cases e
 have T:Txt mg:=⟨aa7 X G Kk,aa7 X G C3,aa7 X G Kl,aa7 X G qF,aa7 X G Ga,aa7 X G Km,aa7 X G uu,aa7 X G Av,aa7 X G Kn,aa7 X G sE,aa7 X G qG⟩
 have O:Ok K mg (Ad.mk f0 d0 f1 d1 f2 d2 f3 d3 ZH d31 ZI d32 f4 d4 f5 d5 f6 d6 f7 d7 f8 d8 f9 d9 Zm d10 Zn d11 Zo d12 Zp d13 Zq d14 ZJ d33 ZK d34 ZL d35 Zr d15 Zs d16 Zt d17 Zu d18 Zv d19 ZM d36 ZN d37 ZO d38 ZP d39 ZQ d40 ZR d41 ZS d42 ZT d43 ZU d44 ZV d45 ZW d46 ZX d47 ZY d48 ZZ d49 Z0 d50 Z1 d51 Z2 d52 Z3 d53 Z4 d54 Z5 d55 Z6 d56 Z7 d57 Zw d20 Zx d21 Zy d22 Zz d23 ZA d24 ZC d25 ZD d26 ZE d27 ZF d28 ZG d29 g_ gz ib gj jr jj i6 iL gk lU j4 qt oW nM lV ()):=⟨⟨F0,F0.bd,aam X G m0⟩,⟨F1,F1.bd,aam X G m1⟩,⟨F2,F2.bd,aam X G m2⟩,⟨F3,F3.bd,aam X G m3⟩,⟨F31,F31.bd,XM⟩,⟨F32,F32.bd,XN⟩,⟨F4,F4.bd,aam X G m4⟩,⟨F5,F5.bd,aam X G m5⟩,⟨F6,F6.bd,aam X G m6⟩,⟨F7,F7.bd,aam X G m7⟩,⟨F8,F8.bd,aam X G m8⟩,⟨F9,F9.bd,aam X G m9⟩,⟨Z8,Z8.bd,aam X G m10⟩,⟨Z9,Z9.bd,aam X G m11⟩,⟨Z_,Z_.bd,aam X G m12⟩,⟨F13,F13.bd,aam X G m13⟩,⟨F14,F14.bd,aam X G m14⟩,⟨F33,F33.bd,XO⟩,⟨F34,F34.bd,m34⟩,⟨F35,F35.bd,m35⟩,⟨F15,F15.bd,aam X G m15⟩,⟨F16,F16.bd,aam X G m16⟩,⟨F17,F17.bd,aam X G m17⟩,⟨F18,F18.bd,aam X G m18⟩,⟨F19,F19.bd,aam X G m19⟩,⟨F36,F36.bd,XQ⟩,⟨F37,F37.bd,m37⟩,⟨F38,F38.bd,m38⟩,⟨F39,F39.bd,m39⟩,⟨F40,F40.bd,m40⟩,⟨F41,F41.bd,m41⟩,⟨F42,F42.bd,m42⟩,⟨F43,F43.bd,m43⟩,⟨F44,F44.bd,m44⟩,⟨F45,F45.bd,m45⟩,⟨F46,F46.bd,m46⟩,⟨F47,F47.bd,m47⟩,⟨F48,F48.bd,m48⟩,⟨F49,F49.bd,m49⟩,⟨F50,F50.bd,m50⟩,⟨F51,F51.bd,m51⟩,⟨F52,F52.bd,m52⟩,⟨F53,F53.bd,m53⟩,⟨F54,F54.bd,m54⟩,⟨F55,F55.bd,m55⟩,⟨F56,F56.bd,m56⟩,⟨F57,F57.bd,m57⟩,⟨F20,F20.bd,aam X G m20⟩,⟨F21,F21.bd,aam X G m21⟩,⟨F22,F22.bd,aam X G m22⟩,⟨F23,F23.bd,aam X G m23⟩,⟨F24,F24.bd,aam X G m24⟩,⟨F25,F25.bd,aam X G m25⟩,⟨F26,F26.bd,aam X G m26⟩,⟨F27,F27.bd,aam X G m27⟩,⟨F28,F28.bd,aam X G m28⟩,⟨F29,F29.bd,aam X G m29⟩,⟨CO,CP,CQ,CS⟩,⟨CT,XM.at_,XM.fn,CU⟩,aam X G CM,hE,js,iz,iA,⟨Ag,Ai,Aj,Ak⟩,⟨Al,XN.at_,XN.fn,Am⟩,aam X G Ae,iY,jM,jv,jw,iR,⟨An,Ao,Ap,Aq⟩,⟨Ar,XO.at_,XO.fn,As⟩,aam X G Af,jA,iq,⟨CV,CW,CY,CZ⟩,⟨C0,XQ.at_,XQ.fn,C1⟩,aam X G CN,iM,je,iB,⟨aam X G pf,pj⟩,⟨aam X G uo,uB⟩,⟨aam X G qD,qH⟩,⟨aam X G uq,uC⟩,⟨aam X G ur,uD⟩,⟨aam X G xa,xb⟩,⟨aam X G qE,qI⟩,⟨aam X G C2,C4⟩,⟨aam X G Au,Aw⟩,aam X G ph,aam X G nv,⟨uv,uw,ux,uy,uA,uF⟩,jK,kr,jT,ku,ky,kO,jU,lZ,ll,uE,sR,mx,True.intro⟩
 refine⟨d30,fun s v=>?_,fun base _ _=>OD F30 T O⟩
 obtain⟨_,_,_,_,_,_,_,_,_,rfl,_,_⟩:=F30.ex
 exact .of_eq rfl
theorem walk{l:W.OpenLaw}{q:Program}{loose:List Str}{XP:(Qqx)→Heap→Prop}{YP:World→Heap→Prop}{d:DefRec}{K:Params→Qqy}(hn:l.most=some 63)(Rh:d.params.defaults=[])
  (hY:∀(w:World)(h:Heap),YP w h→(K w.params).In h)
  (F:∀(w:World)(mg:Qqx)(fa:Addr)(h:Heap),(K w.params).In h→h.Ns mainGlobals mg→mg d.name=some (.ref fa)→
   ∃fd:FuncData,(∀(s:Shared)(u:Value),BindsTo s fd ⟨[u],[]⟩ [("script",u)])∧∀base:Heap,(K w.params).In base→base.Ns mainGlobals mg→ik l.prog w (K w.params) mg base mT 20 fa fd ["script"] (GN (K w.params))) :
  W.WalkO q loose XP YP l.row.toRowW d [] (fun f vs=>PySem.call f vs):=
 L2.KY (n:=63) (k:=20) (x:="script") (CX:=fun _=>mT) (sp:=fun w=>GN (K w.params)) hn (by decide) Rh ⟨rfl,by decide,by decide⟩ hY F (fun _ _ a ns hl _ hS=>⟨a,ns,rfl,hS,hl,fun _=>rfl⟩) fun _ _ _ _ _ z=>z
end PK
open PySem PySem.W PyProof.Rows
theorem PySem.Challenge.cw_patchkin_k06_what_a_patch_leans_on_holds : PySem.Challenge.rw_patchkin_k06_what_a_patch_leans_on.Holds := by
 w_on;o_law;k_head;(case hw=>w_witness2)
 k_fill
 refine PK.walk (l:=PySem.Challenge.rw_patchkin_k06_what_a_patch_leans_on) rfl rfl (fun w h Y=>PySem.W.kIn_of Y) ?F
 case F=>
  intro w mg fa h KX G Ri
  refine' PK.all_mk KX G Ri ?zqCM ?zqAe ?zqAf ?zqCN ?zqh0 ?zqh1 ?zqh2 ?zqh3 ?zqh4 ?zqh5 ?zqh6 ?zqh7 ?zqh8 ?zqh9 ?zqTC ?zqSe ?zqW5 ?zqW6 ?zqW8 ?zqW9 ?zqW_ ?zqXa ?zqXb ?zqXc ?zqTF ?zqSf ?zqXd ?zqXe ?zqXf ?zqXg ?zqXh ?zqXi ?zqXj ?zqXk ?zqXl ?zqXm ?zqXn ?zqXo ?zqXp ?zqXq ?zqXr ?zqXs ?zqXt ?zqXu ?zqTH ?zqSh ?zqXv ?zqXw ?zqXx ?zqXy ?zqXz ?zqXA ?zqXC ?zqXD ?zqTJ ?zqSi ?zqXE ?zqXF ?zqXG ?zqXH ?zqXI ?zqXJ ?zqCO ?zqCP ?zqCQ ?zqCS ?zqCT ?zqCU ?zqhE ?zqjs ?zqiz ?zqiA ?zqAg ?zqAi ?zqAj ?zqAk ?zqAl ?zqAm ?zqiY ?zqjM ?zqjv ?zqjw ?zqiR ?zqAn ?zqAo ?zqAp ?zqAq ?zqAr ?zqAs ?zqjA ?zqiq ?zqCV ?zqCW ?zqCY ?zqCZ ?zqC0 ?zqC1 ?zqiM ?zqje ?zqiB ?zqpf ?zquo ?zqqD ?zquq ?zqur ?zqxa ?zqqE ?zqC2 ?zqAu ?zqph ?zqnv ?zqKk ?zqC3 ?zqKl ?zqqF ?zqGa ?zqKm ?zquu ?zqAv ?zqKn ?zqsE ?zqqG ?zquv ?zquw ?zqux ?zquy ?zquA ?zqpj ?zquB ?zqqH ?zquC ?zquD ?zqxb ?zqqI ?zqC4 ?zqAw ?zqjK ?zqkr ?zqjT ?zqku ?zqky ?zqkO ?zqjU ?zqlZ ?zqll ?zquE ?zquF ?zqsR ?zqmx
  (case zqCM|zqAe|zqAf|zqCN=>k_is)
  (case zqh0|zqh1|zqh2|zqh3|zqh4|zqh5|zqh6|zqh7|zqh8|zqh9|zqTC|zqSe|zqW5|zqW6|zqW8|zqW9|zqW_|zqXa|zqXb|zqXc|zqTF|zqSf|zqXd|zqXe|zqXf|zqXg|zqXh|zqXi|zqXj|zqXk|zqXl=>refine' L2.QE ?a ?l ?c ?k;(case a=>k_is);(case l=>k_is);(case c=>k_is);(case k=>k_is))
  (case zqXm|zqXn|zqXo|zqXp|zqXq|zqXr|zqXs|zqXt|zqXu|zqTH|zqSh|zqXv|zqXw|zqXx|zqXy|zqXz|zqXA|zqXC|zqXD|zqTJ|zqSi|zqXE|zqXF|zqXG|zqXH|zqXI|zqXJ=>refine' L2.QF ?a ?i ?l ?c ?k;(case a=>k_is);(case i=>k_is);(case l=>k_is);(case c=>k_is);(case k=>k_is))
  (case zqCO|zqCP|zqCQ|zqCS|zqCT|zqCU|zqhE|zqjs|zqiz|zqiA|zqAg|zqAi|zqAj|zqAk|zqAl|zqAm|zqiY|zqjM|zqjv|zqjw|zqiR|zqAn|zqAo|zqAp|zqAq|zqAr|zqAs|zqjA|zqiq|zqCV|zqCW|zqCY|zqCZ|zqC0|zqC1|zqiM|zqje|zqiB|zqpf|zquo|zqqD|zquq|zqur|zqxa|zqqE|zqC2|zqAu|zqph|zqnv|zqKk|zqC3|zqKl|zqqF|zqGa|zqKm|zquu|zqAv|zqKn|zqsE|zqqG|zquv|zquw|zqux|zquy|zquA=>k_is)
  (case zqpj|zquB|zqqH|zquC|zquD|zqxb|zqqI|zqC4|zqAw=>k_exc)
  (case zqjK|zqkr|zqjT|zqku|zqky|zqkO|zqjU|zqlZ|zqll|zquE=>kit_is)
  (case zquF|zqsR|zqmx=>kernel_rfl)
