import PyProof.Rows.All
import Wide.All
import OpenK.AllK
import Wide.FinOn
import Lean
import PyProof.EqAt
import PyProof.EqKinds
import PyProof.TupleCall
import PyProof.NeKinds
import PyProof.SliceStr2
import KE.KDictList
import PyProof.CollectIter
import PyProof.EnumFor
import PyProof.EnumMake
import PyProof.LayNew
import PySem.Str
import PyProof.Rows.RegStrFacts
import PyProof.StrLawsRepr
import PySem.Challenge.RW_patchkin_k12_whole_none_can_be_spared
set_option Elab.async false
set_option linter.all false
set_option maxRecDepth 100000
set_option maxHeartbeats 0
theorem Ro:type_of% @List.length_map:=@List.length_map
theorem Rt:type_of% @List.getElem?_eq_some_iff:=@List.getElem?_eq_some_iff
theorem UK:type_of% @List.mem_singleton:=@List.mem_singleton
theorem UN:type_of% @List.getElem?_eq_getElem:=@List.getElem?_eq_getElem
theorem UT:type_of% @List.mem_of_getElem?:=@List.mem_of_getElem?
theorem UU:type_of% @Nat.le_refl:=@Nat.le_refl
theorem VE:type_of% @decide_eq_true:=@decide_eq_true
theorem VJ:type_of% @List.length_append:=@List.length_append
theorem XU:type_of% @List.filter_cons_of_pos:=@List.filter_cons_of_pos
theorem XW:type_of% @List.mem_append:=@List.mem_append
theorem XY:type_of% @List.mem_cons:=@List.mem_cons
theorem X_:type_of% @List.filter_cons_of_neg:=@List.filter_cons_of_neg
theorem aaa:type_of% @decide_eq_false:=@decide_eq_false
theorem aab:type_of% @Nat.le_trans:=@Nat.le_trans
theorem aac:type_of% @List.mem_map_of_mem:=@List.mem_map_of_mem
theorem aad:type_of% @Bool.false_ne_true:=@Bool.false_ne_true
theorem aae:type_of% @List.length_cons:=@List.length_cons
theorem aaf:type_of% @List.mem_cons_of_mem:=@List.mem_cons_of_mem
theorem aag:type_of% @List.size_toArray:=@List.size_toArray
theorem aah:type_of% @List.getElem?_map:=@List.getElem?_map
theorem aai:type_of% @List.take_length:=@List.take_length
theorem aaj:type_of% @PySem.W.mg_of:=@PySem.W.mg_of
theorem aak:type_of% @if_neg:=@if_neg
theorem aal:type_of% @List.mem_cons_self:=@List.mem_cons_self
theorem aam:type_of% @of_decide_eq_true:=@of_decide_eq_true
theorem aan:type_of% @PySem.boot_len:=@PySem.boot_len
theorem aao:type_of% @List.mem_filter:=@List.mem_filter
theorem aap:type_of% @List.mem_append_left:=@List.mem_append_left
theorem aaq:type_of% @List.map_append:=@List.map_append
theorem aar:type_of% @if_pos:=@if_pos
theorem aas:type_of% @List.map_cons:=@List.map_cons
theorem aat:type_of% @PySem.sizeLine_eq:=@PySem.sizeLine_eq
theorem aau:type_of% @Option.some.inj:=@Option.some.inj
theorem aav:type_of% @List.length_take:=@List.length_take
theorem aaw:type_of% @List.Sublist.refl:=@List.Sublist.refl
theorem aax:type_of% @Nat.lt_of_lt_of_le:=@Nat.lt_of_lt_of_le
theorem aay:type_of% @List.filter_append:=@List.filter_append
theorem aaz:type_of% @List.flatMap_cons:=@List.flatMap_cons
theorem aaA:type_of% @List.mem_map:=@List.mem_map
theorem aaB:type_of% @List.length_filter_le:=@List.length_filter_le
theorem aaC:type_of% @Option.map_eq_some_iff:=@Option.map_eq_some_iff
theorem aaD:type_of% @List.mem_append_right:=@List.mem_append_right
theorem aaE:type_of% @Nat.zero_le:=@Nat.zero_le
theorem aaF:type_of% @List.append_nil:=@List.append_nil
theorem aaG:type_of% @List.length_eq_zero_iff:=@List.length_eq_zero_iff
theorem aaH:type_of% @List.mem_iff_getElem?:=@List.mem_iff_getElem?
theorem aaI:type_of% @List.drop_eq_getElem_cons:=@List.drop_eq_getElem_cons
theorem aaJ:type_of% @PySem.F.plainAttrs_list:=@PySem.F.plainAttrs_list
theorem aaK:type_of% @List.nodup_cons:=@List.nodup_cons
theorem aaL:type_of% @List.filter_nil:=@List.filter_nil
theorem aaM:type_of% @List.append_assoc:=@List.append_assoc
theorem aaN:type_of% @List.filter_sublist:=@List.filter_sublist
theorem aaO:type_of% @List.nodup_append:=@List.nodup_append
theorem aaP:type_of% @Nat.ne_of_lt:=@Nat.ne_of_lt
theorem aaQ:type_of% @Array.getElem?_eq_getElem:=@Array.getElem?_eq_getElem
theorem aaR:type_of% @PyProof.Rows.callWith_type1:=@PyProof.Rows.callWith_type1
theorem aaS:type_of% @PySem.F.slot_list_append:=@PySem.F.slot_list_append
theorem aaT:type_of% @PySem.F.type_list_append:=@PySem.F.type_list_append
theorem aaU:type_of% @Bool.false_eq_true:=@Bool.false_eq_true
theorem aaV:type_of% @List.sublist_append_right:=@List.sublist_append_right
theorem aaW:type_of% @congrArg:=@congrArg
theorem aaX:type_of% @Bool.and_eq_true:=@Bool.and_eq_true
theorem aaY:type_of% @PySem.W.mg_none_of:=@PySem.W.mg_none_of
theorem aaZ:type_of% @Array.getElem?_toList:=@Array.getElem?_toList
theorem aa0:type_of% @Array.length_toList:=@Array.length_toList
theorem aa1:type_of% @List.replicate_succ:=@List.replicate_succ
theorem aa2:type_of% @List.mem_flatMap:=@List.mem_flatMap
theorem aa3:type_of% @List.getElem?_append_right:=@List.getElem?_append_right
theorem aa4:type_of% @List.getElem?_set_self:=@List.getElem?_set_self
theorem aa5:type_of% @PySem.W.kia_one:=@PySem.W.kia_one
theorem aa6:type_of% @List.nodup_nil:=@List.nodup_nil
theorem aa7:type_of% @List.length_reverse:=@List.length_reverse
theorem aa8:type_of% @List.take_append_drop:=@List.take_append_drop
theorem aa9:type_of% @List.take_zero:=@List.take_zero
theorem aa_:type_of% @Nat.lt_irrefl:=@Nat.lt_irrefl
theorem aba:type_of% @Nat.lt_of_le_of_lt:=@Nat.lt_of_le_of_lt
theorem abb:type_of% @List.getElem?_set_ne:=@List.getElem?_set_ne
theorem abc:type_of% @List.sublist_cons_self:=@List.sublist_cons_self
theorem abd:type_of% @List.filterMap_cons:=@List.filterMap_cons
theorem abe:type_of% @PySem.mem_of_lookup:=@PySem.mem_of_lookup
theorem abf:type_of% @List.getElem?_eq_none_iff:=@List.getElem?_eq_none_iff
theorem abg:type_of% @Bool.eq_iff_iff:=@Bool.eq_iff_iff
theorem abh:type_of% @List.flatMap_nil:=@List.flatMap_nil
theorem abi:type_of% @PySem.F.plainAttrs_dict:=@PySem.F.plainAttrs_dict
theorem abj:type_of% @Bool.eq_false_iff:=@Bool.eq_false_iff
theorem abk:type_of% @beq_eq_false_iff_ne:=@beq_eq_false_iff_ne
theorem abl:type_of% @List.flatMap_append:=@List.flatMap_append
theorem abm:type_of% @PyProof.Rows.boot_list:=@PyProof.Rows.boot_list
theorem abn:type_of% @List.all_eq_true:=@List.all_eq_true
theorem abo:type_of% @List.getElem?_take:=@List.getElem?_take
theorem abp:type_of% @List.filterMap_append:=@List.filterMap_append
theorem abq:type_of% @Ne.symm:=@Ne.symm
theorem abr:type_of% @List.getElem?_append_left:=@List.getElem?_append_left
theorem abt:type_of% @List.pairwise_iff_getElem:=@List.pairwise_iff_getElem
theorem abu:type_of% @List.take_sublist:=@List.take_sublist
theorem abv:type_of% @Int.toNat_natCast:=@Int.toNat_natCast
theorem abw:type_of% @List.flatten_cons:=@List.flatten_cons
theorem abx:type_of% @decide_eq_true_eq:=@decide_eq_true_eq
theorem aby:type_of% @PySem.F.slot_dict_update:=@PySem.F.slot_dict_update
theorem abz:type_of% @List.getElem?_inj:=@List.getElem?_inj
theorem abA:type_of% @List.map_congr_left:=@List.map_congr_left
theorem abB:type_of% @List.filter_eq_self:=@List.filter_eq_self
theorem abC:type_of% @List.filter_cons:=@List.filter_cons
theorem abD:type_of% @List.lookup_cons:=@List.lookup_cons
theorem abE:type_of% @List.not_mem_nil:=@List.not_mem_nil
theorem abF:type_of% @beq_iff_eq:=@beq_iff_eq
theorem abG:type_of% @List.filter_eq_nil_iff:=@List.filter_eq_nil_iff
theorem abH:type_of% @List.take_of_length_le:=@List.take_of_length_le
theorem abI:type_of% @List.mem_filterMap:=@List.mem_filterMap
theorem abJ:type_of% @if_false:=@if_false
theorem abK:type_of% @List.getElem?_drop:=@List.getElem?_drop
theorem abL:type_of% @List.Nodup.sublist:=@List.Nodup.sublist
theorem abM:type_of% @List.find?_cons:=@List.find?_cons
theorem abN:type_of% @Option.map_some:=@Option.map_some
theorem abO:type_of% @PySem.F.slot_dict_pop:=@PySem.F.slot_dict_pop
theorem abP:type_of% @List.length_range:=@List.length_range
theorem abQ:type_of% @List.mem_range:=@List.mem_range
theorem abR:type_of% @Nat.lt_succ_self:=@Nat.lt_succ_self
theorem abS:type_of% @List.range'_succ:=@List.range'_succ
theorem abT:type_of% @List.drop_length:=@List.drop_length
theorem abU:type_of% @Sum.inr.inj:=@Sum.inr.inj
theorem abV:type_of% @List.length_set:=@List.length_set
theorem abW:type_of% @Bool.or_eq_true:=@Bool.or_eq_true
namespace L2
open PySem PySem.Spec PyProof.Rows
abbrev Key:=Sum Int Str
def yh:Key→Value→Bool
 | .inl k,v=>Value.isInt k v
 | .inr x,v=>Value.isStrOf x v
def T9(w:World):Key→Int
 | .inl k=>hashInt k
 | .inr x=>hashStr w x
theorem ju:∀{k:Key} {v:Value},yh k v=true→(∃i t,k=Sum.inl i∧v=Value.int i t)∨(∃x t,k=Sum.inr x∧v=Value.str x t)
 | .inl i,v,h=>by
   obtain⟨t,e⟩:=Value.isInt_shape (k:=i) (v:=v) h
   exact .inl ⟨i,t,rfl,e⟩
 | .inr x,v,h=>by
   obtain⟨t,e⟩:=Value.isStrOf_shape (x:=x) (v:=v) h
   exact .inr ⟨x,t,rfl,e⟩
theorem Gi(i:Int)(t:Tok):yh (.inl i) (.int i t)=true:=by simp[yh,Value.isInt]
theorem Gj(x:Str)(t:Tok):yh (.inr x) (.str x t)=true:=by simp[yh,Value.isStrOf]
theorem Mz(a b:Int):decide ((Sum.inl a:Key)=Sum.inl b)=(a ==b):=by
 by_cases e:a=b
 · subst e;simp
 · have h:¬(Sum.inl a:Key)=Sum.inl b:=fun q=>e (Sum.inl.inj q)
   rw[aaa h]
   exact(abk.mpr e).symm
theorem MA(a b:Str):decide ((Sum.inr a:Key)=Sum.inr b)=decide (a=b):=by
 by_cases e:a=b
 · subst e;simp
 · have h:¬(Sum.inr a:Key)=Sum.inr b:=fun q=>e (abU q)
   rw[aaa h,aaa e]
theorem MB(a:Int)(b:Str):decide ((Sum.inl a:Key)=Sum.inr b)=false:=aaa (fun q=>nomatch q)
theorem MC(a:Str)(b:Int):decide ((Sum.inr a:Key)=Sum.inl b)=false:=aaa (fun q=>nomatch q)
def jd(prog:Program)(w:World):PySem.KeyKind prog w Key where
 is:=yh
 hash:=T9 w
 inj:=fun v a b ha hb=>by
   rcases ju ha with⟨i,t,rfl,rfl⟩|⟨x,t,rfl,rfl⟩
   · rcases ju hb with⟨j,u,rfl,e⟩|⟨y,u,rfl,e⟩
     · injection e with e1 _;rw[e1]
     · exact nomatch e
   · rcases ju hb with⟨j,u,rfl,e⟩|⟨y,u,rfl,e⟩
     · exact nomatch e
     · injection e with e1 _;rw[e1]
 byValue:=fun k v h=>by
   rcases ju h with⟨i,t,rfl,rfl⟩|⟨x,t,rfl,rfl⟩<;>rfl
 pyHash:=fun hv h=>by
   rcases ju hv with⟨i,t,rfl,rfl⟩|⟨x,t,rfl,rfl⟩
   · exact wpAny_pyHash_int h
   · exact wpAny_pyHash_str h
 eqBool:=fun hu hv h=>by
   rcases ju hu with⟨i,t,rfl,rfl⟩|⟨x,t,rfl,rfl⟩
   · rcases ju hv with⟨j,u,rfl,rfl⟩|⟨y,u,rfl,rfl⟩
     · rw[Mz] at h;exact wpAny_eqBool_int h
     · rw[MB] at h;exact SeqAt.EqAt.int_str i t y u _ _ _ _ h
   · rcases ju hv with⟨j,u,rfl,rfl⟩|⟨y,u,rfl,rfl⟩
     · rw[MC] at h;exact SeqAt.EqAt.str_int x t j u _ _ _ _ h
     · rw[MA] at h;exact wpAny_eqBool_str h
 «strs»:=fun k x t v h=>by
   rcases ju h with⟨i,u,rfl,e⟩|⟨y,u,rfl,e⟩
   · exact nomatch e
   · injection e with e1 _
     subst e1
     cases v<;>rfl
theorem CH(prog:Program)(w:World)(i:Int)(t:Tok):(jd prog w).is (.inl i) (.int i t)=true:=Gi i t
theorem CI(prog:Program)(w:World)(x:Str)(t:Tok):(jd prog w).is (.inr x) (.str x t)=true:=Gj x t
inductive V where
 | jx|bl (b:Bool)|int (i:Int)|str (x:Str)|Eg (b:Array UInt8)|LN (b:UInt64)|ref (a:Addr)|ty (n:String)
 deriving DecidableEq
def RelV:V→Value→Prop
 | .jx,u=>u=Value.none
 | .bl b,u=>u=Value.bool b
 | .int i,u=>∃t,u=Value.int i t
 | .str x,u=>∃t,u=Value.str x t
 | .Eg b,u=>∃t,u=Value.bytes b t
 | .LN b,u=>∃t,u=Value.float b t
 | .ref a,u=>u=Value.ref a
 | .ty n,u=>u=Value.type n
abbrev Vals:List V→List Value→Prop:=Paired RelV
theorem Vals.length{xs:List V}{us:List Value}(r:Vals xs us):xs.length=us.length:=Paired.length r
theorem Vals.get:∀{xs:List V} {us:List Value} {i:Nat} {x:V},Vals xs us→xs[i]?=some x→∃u,us[i]?=some u∧RelV x u
 | _,_,_,_,.nil,e=>by simp at e
 | _,_,0,_,.cons r _,e=>by simp at e;subst e;exact⟨_,rfl,r⟩
 | _,_,i+1,x,.cons _ t,e=>by
   obtain⟨u,h1,h2⟩:=Vals.get (i:=i) (x:=x) t (by simpa using e)
   exact⟨u,by simpa using h1,h2⟩
theorem Vals.set{x:V}{u:Value}(r:RelV x u):∀{xs:List V} {us:List Value} (i:Nat),Vals xs us→Vals (xs.set i x) (us.set i u)
 | _,_,_,.nil=>.nil
 | _,_,0,.cons _ t=>.cons r t
 | _,_,i+1,.cons q t=>.cons q (Vals.set r i t)
theorem Vals.append:∀{xs ys:List V} {us ws:List Value},Vals xs us→Vals ys ws→Vals (xs++ys) (us++ws)
 | _,_,_,_,.nil,s=>s
 | _,_,_,_,.cons r t,s=>.cons r (Vals.append t s)
theorem Vals.take:∀{xs:List V} {us:List Value} (n:Nat),Vals xs us→Vals (xs.take n) (us.take n)
 | _,_,0,_=>.nil
 | _,_,_+1,.nil=>.nil
 | _,_,n+1,.cons r t=>.cons r (Vals.take n t)
theorem Vals.drop:∀{xs:List V} {us:List Value} (n:Nat),Vals xs us→Vals (xs.drop n) (us.drop n)
 | _,_,0,r=>r
 | _,_,_+1,.nil=>.nil
 | _,_,n+1,.cons _ t=>Vals.drop n t
def o3:Option V→Option Value→Prop
 | some v,some u=>RelV v u
 | none,none=>True
 | _,_=>False
def KV{κ:Type}:List (κ×V)→List (κ×Value)→Prop:=Paired fun(p:κ×V) (q:κ×Value)=>p.1=q.1∧RelV p.2 q.2
def kV:Key→V
 | .inl i=>.int i
 | .inr x=>.str x
inductive HO where
 | lst (xs:List V)
 | tup (xs:List V)
 | dK (kvs:List (Key×V))|dT (kvs:List (List Key×V))
 | set (S:Int→Bool) (n:Nat)
 | ins (C dx:Addr) (fs:List (Str×V))
 | own (x:Addr)
 | xd (fs:List (Str×V))
 | met (f x:Addr)
 | SI (lo hi:Int)
 | mK (o:Obj) (u:HO)
 | Ka (ps:Array Value)
 | ext (φ:Heap→Prop)
abbrev Hp:=Addr→Option HO
def upd(H:Hp)(a:Addr)(o:HO):Hp:=fun b=>if b=a then some o else H b
theorem b_{H:Hp}{a:Addr}{o:HO}:upd H a o a=some o:=by unfold upd;rw[aar rfl]
theorem de{H:Hp}{a b:Addr}{o:HO}(h:b≠a):upd H a o b=H b:=by unfold upd;rw[aak h]
theorem Ki{H:Hp}{a:Addr}{o u:HO}:upd (upd H a o) a u=upd H a u:=by
 funext b;unfold upd;split<;>rfl
theorem i_{H:Hp}{a b:Addr}{o u:HO}(h:H a=some o)(h':H b=some u)(d:o≠u):a≠b:=by
 intro e;subst e;rw[h] at h';exact d (aau h')
theorem gc{H:Hp}{a b:Addr}{o:HO}(h:H a=some o)(h':H b=none):a≠b:=by
 intro e;subst e;rw[h] at h';cases h'
section
variable(P:Program)(w:World)
def i8(H:Hp)(h:Heap)(a:Addr):HO→Prop
 | .lst xs=>xs.length≤sizeLine∧∃(ia:List Value)(n:Nat),Vals xs ia∧h.get? a=some {cls:=.type "list",data:=.seq ia.toArray n}
 | .tup xs=>xs.length≤sizeLine∧∃ia:List Value,Vals xs ia∧IsTup h a ia.toArray
 | .dK kvs=>kvs.length≤sizeLine∧(a ==sysModules)=false∧∃vs,KV kvs vs∧h.DictOf (jd P w) a vs
 | .dT kvs=>kvs.length≤sizeLine∧(a ==sysModules)=false∧∃xs:List (List Key×Addr×Value),
     Paired (fun(p:List Key×V) (q:List Key×Addr×Value)=>p.1=q.1∧H q.2.1=some (.tup (p.1.map kV))∧RelV p.2 q.2.2) kvs xs∧
     ∃o es ep,h.get? a=some o∧o.ExactDict∧o.data=.dict es ep∧es.toList=xs.map (entryOfKey (tupleKind (jd P w)))∧(xs.map (·.1)).Nodup
 | .set S n=>h.SetOf (intKind P w) a S n
 | .ins C dx fs=>H dx=some (.own a)∧fs.length≤1000∧dx≠a∧h.get? a=some (PySem.W.instObj C dx)∧
     ∃mA,h.Ns1 dx mA∧(∀f,o3 (fs.lookup f) (mA f))∧PySem.Within mA (fs.map (·.1))
 | .own _=>∃o,h.get? a=some o
 | .xd fs=>∃mA,h.Ns1 a mA∧∀f,o3 (fs.lookup f) (mA f)
 | .SI lo hi=>∃t u v,h.get? a=some {cls:=.type "range",data:=.fields #[.int lo t,.int hi u,.int 1 v]}
 | .mK o u=>h.get? a=some o∧i8 H h a u
 | .Ka ps=>h.get? a=some {cls:=.none,data:=.fields ps}
 | .met f x=>h.get? a=some (PySem.W.methodObj (.ref f) (.ref x))
 | .ext φ=>φ h∧(∃o,h.get? a=some o)∧∀h1 h2:Heap,φ h1→(∀o,h1.get? a=some o→h2.get? a=some o)→φ h2
def qz(H:Hp)(h:Heap):Prop:=∀a o,H a=some o→i8 P w H h a o
end
section
variable{P:Program}{w:World}{H H':Hp}{h h':Heap}{a:Addr}{o:HO}
theorem i8.lt(x:i8 P w H h a o):a<h.objs.size:=by
 cases o with
 | lst xs=>obtain⟨_,_,_,_,e⟩:=x;exact Heap.lt_size e
 | tup xs=>obtain⟨_,_,_,p⟩:=x;exact p.lt
 | dK kvs=>obtain⟨_,_,_,_,o,_,_,e,_⟩:=x;exact Heap.lt_size e
 | dT kvs=>obtain⟨_,_,_,_,o,_,_,e,_⟩:=x;exact Heap.lt_size e
 | set S n=>obtain⟨o,_,_,_,e,_⟩:=x;exact Heap.lt_size e
 | ins C dx fs=>obtain⟨_,_,_,e,_⟩:=x;exact Heap.lt_size e
 | own y=>obtain⟨_,e⟩:=x;exact Heap.lt_size e
 | xd fs=>obtain⟨_,⟨_,_,_,e,_⟩,_⟩:=x;exact Heap.lt_size e
 | SI lo hi=>obtain⟨_,_,_,e⟩:=x;exact Heap.lt_size e
 | mK ob u=>obtain⟨e,_⟩:=x;exact Heap.lt_size e
 | Ka ps=>exact Heap.lt_size (show h.get? a=some _ from x)
 | met f y=>exact Heap.lt_size (show h.get? a=some _ from x)
 | ext φ=>obtain⟨_,⟨_,e⟩,_⟩:=x;exact Heap.lt_size e
theorem Paired.kO{α β:Type}{F G:α→β→Prop}:∀{l₁:List α} {l₂:List β},Paired F l₁ l₂→(∀a b,F a b→G a b)→Paired G l₁ l₂
 | _,_,.nil,_=>.nil
 | _,_,.cons r t,f=>.cons (f _ _ r) (Paired.kO t f)
theorem i8.xC(x:i8 P w H h a o)(k:∀b u,(b=a∨H b=some (.own a))→h.get? b=some u→h'.get? b=some u)
   (ho:∀b,H b=some (.own a)→H' b=some (.own a)) (ht:∀b xs,H b=some (.tup xs)→H' b=some (.tup xs)):i8 P w H' h' a o:=by
 induction o with
 | lst xs=>obtain⟨z,ia,n,r,e⟩:=x;exact⟨z,ia,n,r,k _ _ (.inl rfl) e⟩
 | tup xs=>obtain⟨z,ia,r,ob,e,c⟩:=x;exact⟨z,ia,r,ob,k _ _ (.inl rfl) e,c⟩
 | dK kvs=>obtain⟨z,y,vs,r,ob,es,ep,e,c⟩:=x;exact⟨z,y,vs,r,ob,es,ep,k _ _ (.inl rfl) e,c⟩
 | dT kvs=>
   obtain⟨z,y,xs,r,ob,es,ep,e,c⟩:=x
   exact⟨z,y,xs,Paired.kO r fun p q z=>⟨z.1,ht _ _ z.2.1,z.2.2⟩,ob,es,ep,k _ _ (.inl rfl) e,c⟩
 | set S n=>obtain⟨ob,es,ep,t,e,c⟩:=x;exact⟨ob,es,ep,t,k _ _ (.inl rfl) e,c⟩
 | ins C dx fs=>
   obtain⟨d,z,ne,e,mA,⟨od,es,ep,e2,c⟩,r⟩:=x
   exact⟨ho _ d,z,ne,k _ _ (.inl rfl) e,mA,⟨od,es,ep,k _ _ (.inr d) e2,c⟩,r⟩
 | own y=>obtain⟨ob,e⟩:=x;exact⟨ob,k _ _ (.inl rfl) e⟩
 | xd fs=>obtain⟨mA,⟨od,es,ep,e,c⟩,r⟩:=x;exact⟨mA,⟨od,es,ep,k _ _ (.inl rfl) e,c⟩,r⟩
 | SI lo hi=>obtain⟨t,u,v,e⟩:=x;exact⟨t,u,v,k _ _ (.inl rfl) e⟩
 | mK ob u ih=>obtain⟨e,q⟩:=x;exact⟨k _ _ (.inl rfl) e,ih q⟩
 | Ka ps=>
   have e:h.get? a=some {cls:=.none,data:=.fields ps}:=x
   show h'.get? a=some {cls:=.none,data:=.fields ps}
   exact k a _ (.inl rfl) e
 | met f y=>
   have e:h.get? a=some (PySem.W.methodObj (.ref f) (.ref y)):=x
   show h'.get? a=some (PySem.W.methodObj (.ref f) (.ref y))
   exact k a _ (.inl rfl) e
 | ext φ=>obtain⟨p,⟨o,e⟩,st⟩:=x;exact⟨st _ _ p fun o q=>k _ _ (.inl rfl) q,⟨o,k _ _ (.inl rfl) e⟩,st⟩
theorem qz.lt(x:qz P w H h)(e:H a=some o):a<h.objs.size:=(x a o e).lt
theorem qz.fresh(x:qz P w H h)(e:h.objs.size≤a):H a=none:=by
 cases q:H a with
 | none=>rfl
 | some u=>exact absurd (aax (x.lt q) e) (aa_ _)
theorem qz.kept(x:qz P w H h)(k:∀b u,h.get? b=some u→h'.get? b=some u):qz P w H h':=fun a o e=>
 (x a o e).xC (fun b u _ q=>k b u q) (fun _ q=>q) fun _ _ q=>q
theorem qz.laid(x:qz P w H h)(k:∀b u,h.get? b=some u→h'.get? b=some u)(hp:h.objs.size≤a)(new:i8 P w (upd H a o) h' a o):qz P w (upd H a o) h':=fun b u e=>by
 have hn:=x.fresh hp
 by_cases hb:b=a
 · subst hb;rw[b_] at e;cases e;exact new
 · rw[de hb] at e
   exact(x b u e).xC (fun c v _ q=>k c v q) (fun c q=>by rw[de (gc q hn)];exact q) fun c xs q=>by rw[de (gc q hn)];exact q
end
def Rd(H:Hp)(a:Addr)(u:HO):Prop:=H a=some u∨∃o,H a=some (.mK o u)
theorem Rd.ok{P:Program}{w:World}{H:Hp}{h:Heap}{a:Addr}{u:HO}(r:Rd H a u)(x:qz P w H h):i8 P w H h a u:=by
 rcases r with r|⟨o,r⟩
 · exact x a u r
 · obtain⟨_,q⟩:=x a _ r
   exact q
def LO:Option HO→Prop
 | some (.lst _)=>True
 | some (.dK _)=>True
 | some (.dT _)=>True
 | some (.set _ _)=>True
 | some (.ins _ _ _)=>True
 | some (.ext _)=>True
 | _=>False
section
variable{P:Program}{w:World}{H:Hp}{h h':Heap}{x e:Addr}{o':HO}
theorem qz.write(ok:qz P w H h)(mu:LO (H x))(he:e=x∨H e=some (.own x))(k:∀b u,b≠e→h.get? b=some u→h'.get? b=some u)(JH:∃u,h'.get? e=some u)
   (new:i8 P w (upd H x o') h' x o'):qz P w (upd H x o') h':=fun b u q=>by
 have QN:∀c y,H c=some (.own y)→c≠x:=fun c y r z=>by subst z;rw[r] at mu;exact mu
 have U8:∀c xs,H c=some (.tup xs)→c≠x:=fun c xs r z=>by subst z;rw[r] at mu;exact mu
 by_cases hb:b=x
 · subst hb;rw[b_] at q;cases q;exact new
 · rw[de hb] at q
   by_cases N7:b=e
   · have q':H b=some (.own x):=by
       rcases he with z|z
       · exact absurd (N7.trans z) hb
       · rw[N7];exact z
     rw[q] at q';cases q'
     obtain⟨v,hv⟩:=JH
     exact⟨v,by rw[N7];exact hv⟩
   · refine(ok b u q).xC (fun c v hc r=>k c v ?_ r) (fun c r=>by rw[de (QN c b r)];exact r) fun c xs r=>by rw[de (U8 c xs r)];exact r
     rcases hc with rfl|hc
     · exact N7
     · rintro rfl
       rcases he with z|z
       · exact QN c b hc z
       · rw[hc] at z;cases z;exact hb rfl
end
structure Un(fs ex:List Addr)(H H':Hp)(h h':Heap):Prop where
 keep:∀b o,h.get? b=some o→H b=none→b∉fs→b∉ex→h'.get? b=some o
 slot:∀b o,h.get? b=some o→H b=none→b∈fs→b∉ex→∃sl,h'.get? b=some {o with slots:=sl}
 free:∀b o,h.get? b=some o→H b=none→b∉ex→H' b=none
 there:∀b o,h.get? b=some o→b∉ex→∃o',h'.get? b=some o'
 pP:∀b xs,H b=some (.tup xs)→H' b=some (.tup xs)
 sY:∀b o u,H b=some (.mK o u)→H' b=some (.mK o u)
 va:∀b ps,H b=some (.Ka ps)→∃more,H' b=some (.Ka (ps++more))
section
variable{fs fs' ex ex':List Addr}{H H1 H2:Hp}{h h1 h2 h':Heap}{a x e:Addr}{o:HO}
theorem Un.any(u:Un fs ex H H1 h h1){b:Addr}{ob:Obj}(q:h.get? b=some ob)(n:H b=none)(hx:b∉ex):∃sl,h1.get? b=some {ob with slots:=sl}:=by
 by_cases hb:b∈fs
 · exact u.slot b ob q n hb hx
 · exact⟨ob.slots,u.keep b ob q n hb hx⟩
theorem Un.kept(k:∀b u,h.get? b=some u→h'.get? b=some u):Un fs ex H H h h':=
 ⟨fun b ob q _ _ _=>k b ob q,fun b ob q _ _ _=>⟨ob.slots,k b ob q⟩,fun _ _ _ n _=>n,fun b ob q _=>⟨ob,k b ob q⟩,fun _ _ q=>q,fun _ _ _ q=>q,fun _ ps q=>⟨#[],by rw[q];simp⟩⟩
theorem Un.refl:Un fs ex H H h h:=Un.kept fun _ _ q=>q
theorem Un.laid(k:∀b u,h.get? b=some u→h'.get? b=some u)(hp:h.objs.size≤a)(hn:H a=none):Un fs ex H (upd H a o) h h' where
 keep:=fun b u q _ _ _=>k b u q
 slot:=fun b u q _ _ _=>⟨u.slots,k b u q⟩
 free:=fun b u q n _=>by rw[de (aaP (aax (Heap.lt_size q) hp))];exact n
 there:=fun b u q _=>⟨u,k b u q⟩
 pP:=fun b xs q=>by rw[de (gc q hn)];exact q
 sY:=fun b u xs q=>by rw[de (gc q hn)];exact q
 va:=fun b ps q=>⟨#[],by rw[de (gc q hn),q];simp⟩
theorem Un.write(mu:LO (H x))(he:e=x∨H e=some (.own x))(k:∀b u,b≠e→h.get? b=some u→h'.get? b=some u)(JH:∃u,h'.get? e=some u):Un fs ex H (upd H x o) h h':=by
 have hx:∀b,H b=none→b≠x:=fun b n z=>by subst z;rw[n] at mu;exact mu
 have hb:∀b,H b=none→b≠e:=fun b n z=>by
   subst z
   rcases he with r|r
   · exact hx b n r
   · rw[n] at r;cases r
 have hm:∀b u,H b=some u→¬LO (some u)→b≠x:=fun b u q nm z=>by subst z;rw[q] at mu;exact nm mu
 refine⟨fun b u q n _ _=>k b u (hb b n) q,fun b u q n _ _=>⟨u.slots,k b u (hb b n) q⟩,fun b u q n _=>by rw[de (hx b n)];exact n,fun b u q _=>?_,
   fun b xs q=>by rw[de (hm b _ q fun z=>z)];exact q,fun b u xs q=>by rw[de (hm b _ q fun z=>z)];exact q,fun b ps q=>⟨#[],by rw[de (hm b _ q fun z=>z),q];simp⟩⟩
 by_cases N7:b=e
 · subst N7;exact JH
 · exact⟨u,k b u N7 q⟩
end
def SJ(h:Heap)(H:Hp):List Addr:=(List.range h.objs.size).filter fun a=>(H a).isSome
def Bh(h:Heap)(H:Hp):Heap:=PySem.W.hideAll h (SJ h H)
theorem Gk(h:Heap)(H:Hp):(Bh h H).objs.size=h.objs.size:=PySem.W.hideAll_size _ _
theorem HE{h:Heap}{H:Hp}{b:Addr}{o:Obj}(e:h.get? b=some o)(n:H b=none):(Bh h H).get? b=some o:=
 PySem.W.hideAll_get _ e fun hm=>by
   have q:(H b).isSome=true:=(aao.mp hm).2
   rw[n] at q;simp at q
theorem Kj{h:Heap}{H:Hp}{b:Addr}{o:Obj}(e:(Bh h H).get? b=some o):h.get? b=some o∧H b=none:=by
 have e':h.get? b=some o:=PySem.W.of_hideAll (SJ h H) e
 refine⟨e',?_⟩
 cases q:H b with
 | none=>rfl
 | some x=>
   have hm:b∈SJ h H:=aao.mpr ⟨abQ.mpr (Heap.lt_size e'),by simp[q]⟩
   have z:(Bh h H).get? b=none:=PySem.W.hideAll_none (SJ h H) hm
   rw[z] at e;cases e
def Kk(g h:Heap)(L:Addr):List (Addr×Obj):=(List.range h.objs.size).filterMap fun a=>if a=L∨(g.get? a).isSome=true then none else(h.get? a).map fun o=>(a,o)
def rest(g h:Heap)(L d:Addr):List (Addr×Obj):=(Kk g h L).filter fun p=>decide (p.1≠d)
structure Mod(K:PySem.W.Frag)(mg:Str→Option Value)(base:Heap):Prop where
 MD:K.In base
 glob:base.Ns mainGlobals mg
 blt:∃mb,base.Ns builtinsNs mb∧∀x:Str,x≠"__name__"→mb x=bootBuiltins x
 nolimit:base.NoLimit
structure Cx where
 prog:Program
 w:World
 K:PySem.W.Frag
 mg:Str→Option Value
 base:Heap
 A:Around
 N:List Str
 s₀:Shared
 H₀:Hp
 env:Env
 outer:List Env
 stack:List Env
 ex:List Addr
 fn:Str→Bool
 calm:Bool
 pn:List (Addr×Obj)
 xe:Value→Shared→Prop
def qM(l:List Env):List Addr:=l.filterMap (·.frame)
abbrev Cx.fs(X:Cx):List Addr:=qM X.outer
def T_(sc:Scope)(x:Str):Prop:=sc.names.lookup x=some .local∨sc.names.lookup x=some .cell∨sc.names.lookup x=some .free
def Loc(sc:Scope)(x:Str):Prop:=sc.names.lookup x=some .local∨sc.names.lookup x=some .cell
def Look(env:Env)(h:Heap)(m:Str→Option Value)(x:Str)(u:Value):Prop:=
 (env.kindOf x=some .local∧m x=some u)∨((env.kindOf x=some .cell∨env.kindOf x=some .free)∧∃c,env.cells.lookup x=some c∧h.IsCell c (some u))
structure Cx.Ok(X:Cx):Prop where
 mod:Mod X.K X.mg X.base
 kind:X.env.scope.kind=.function
 glob:X.env.globals=mainGlobals
 blt:X.env.builtins=builtinsNs
 above:X.s₀.heap.objs.size≤X.env.locals
 inj:∀x y c,X.env.cells.lookup x=some c→X.env.cells.lookup y=some c→x=y
 has:∀x,(X.env.kindOf x=some .cell∨X.env.kindOf x=some .free)→∃c,X.env.cells.lookup x=some c
 LP:∀x c,X.fn x=true→X.env.cells.lookup x=some c→X.s₀.heap.objs.size≤c
 hd:X.calm=true→X.A.handled=none
 frames:X.A.frames=some X.stack
 ME:X.stack=X.outer∨(X.stack=X.env::X.outer∧X.env.frame=some X.env.locals)
 Px:∀b∈X.ex,b≠X.env.locals∧∀x c,X.env.cells.lookup x=some c→c≠b
 bs:∀b o,X.base.get? b=some o→X.s₀.heap.get? b=some o∧X.H₀ b=none
 HF:X.base.objs.size≤X.s₀.heap.objs.size
 qN:∀b o,X.base.get? b=some o→b∉X.ex
 Eh:∀b∈X.ex,b∉X.fs
 sx:X.s₀.heap.FunFrames X.base X.outer
 Kb:∀b∈X.fs,X.H₀ b=none
structure Inv(X:Cx)(pins:List (Addr×Obj))(σ:List (Option V))(H:Hp)(s:Shared):Prop where
 ok:X.Ok
 os:s.os=X.s₀.os
 bare:AllBare s.gens
 base:Un X.fs X.ex X.H₀ H X.s₀.heap s.heap
 loc:∃m,s.heap.Ns X.env.locals m∧∀(i:Nat)(x:Str)(v:V),X.N[i]?=some x→σ[i]?=some (some v)→T_ X.env.scope x→∃u,RelV v u∧Look X.env s.heap m x u
 cell:∀x c,X.env.cells.lookup x=some c→∃v,s.heap.IsCell c v
 free:H X.env.locals=none
 ma:∀x c,X.env.cells.lookup x=some c→H c=none
 pin:∀p∈X.pn++pins,s.heap.get? p.1=some p.2∧H p.1=none∧p.1≠X.env.locals∧p.1∉X.fs∧∀v,p.2.data≠.cell v
 iK:qz X.prog X.w H s.heap
 len:σ.length=X.N.length
section
variable{X:Cx}{pins:List (Addr×Obj)}{σ:List (Option V)}{H H':Hp}{s:Shared}{h':Heap}
theorem Cx.Ok.Kl(ok:X.Ok){b:Addr}{o:Obj}(e:X.base.get? b=some o):b∉X.fs:=fun hb=>by
 have:=(ok.sx.mem hb).1
 rw[e] at this;cases this
theorem Inv.bs(I:Inv X pins σ H s):∀b o,X.base.get? b=some o→s.heap.get? b=some o∧H b=none:=fun b o e=>
 ⟨I.base.keep b o (I.ok.bs b o e).1 (I.ok.bs b o e).2 (I.ok.Kl e) (I.ok.qN b o e),I.base.free b o (I.ok.bs b o e).1 (I.ok.bs b o e).2 (I.ok.qN b o e)⟩
theorem Inv.bk(I:Inv X pins σ H s):∀b o,X.base.get? b=some o→s.heap.get? b=some o:=fun b o e=>(I.bs b o e).1
theorem Inv.mod(I:Inv X pins σ H s):Mod X.K X.mg X.base:=I.ok.mod
theorem Inv.tZ(I:Inv X pins σ H s):X.K.In s.heap:=I.ok.mod.MD.keeps I.bk
theorem Inv.lt(I:Inv X pins σ H s):X.env.locals<s.heap.objs.size:=let ⟨_,hn,_⟩:=I.loc;hn.lt
theorem Inv.sz(I:Inv X pins σ H s):X.s₀.heap.objs.size≤s.heap.objs.size:=aab I.ok.above (Nat.le_of_lt I.lt)
theorem Inv.Py(I:Inv X pins σ H s){a:Addr}(h:s.heap.objs.size≤a):a∉X.fs:=fun hb=>by
 obtain⟨_,o,ho,_⟩:=I.ok.sx.mem hb
 exact absurd (aax (Heap.lt_size ho) (aab I.sz h)) (aa_ _)
theorem Inv.MF(I:Inv X pins σ H s):∀x c,X.env.cells.lookup x=some c→c≠X.env.locals:=fun x c e z=>by
 obtain⟨v,o,ho,hd⟩:=I.cell x c e
 obtain⟨m,⟨o',es,ep,n_,U9,_⟩,_⟩:=I.loc
 rw[z,n_] at ho;cases ho;rw[U9] at hd;cases hd
theorem Inv.sx(I:Inv X pins σ H s):s.heap.FunFrames X.base X.outer:=by
 have all:∀(l:List Env),(∀b∈qM l,b∈X.fs)→X.s₀.heap.FunFrames X.base l→s.heap.FunFrames X.base l:=by
   intro l
   induction l with
   | nil=>intro _ _;trivial
   | cons env r ih=>
     intro hs hl
     obtain⟨hk,⟨L,o,hf,hn,ho,hd⟩,hr⟩:=hl
     have hL:L∈X.fs:=hs L (by unfold qM;rw[abd,hf];exact aal)
     obtain⟨sl,e⟩:=I.base.slot L o ho (I.ok.Kb L hL) hL fun z=>I.ok.Eh L z hL
     exact⟨hk,⟨L,_,hf,hn,e,hd⟩,ih (fun b hb=>hs b (by unfold qM;rw[abd,hf];exact aaf _ hb)) hr⟩
 exact all X.outer (fun _ hb=>hb) I.ok.sx
theorem Inv.stack(I:Inv X pins σ H s):s.heap.FunFrames X.base X.stack:=by
 rcases I.ok.ME with e|⟨e,hf⟩
 · rw[e];exact I.sx
 · rw[e]
   obtain⟨m,hn,_⟩:=I.loc
   refine .cons (by rw[I.ok.kind];decide) hf hn ?_ I.sx
   exact Heap.get?_none_of_le (aab I.ok.HF I.ok.above)
theorem Inv.vb(I:Inv X pins σ H s):∀b∈qM X.stack,b∈X.env.locals::X.fs:=fun b hb=>by
 rcases I.ok.ME with e|⟨e,hf⟩
 · rw[e] at hb;exact aaf _ hb
 · rw[e] at hb
   unfold qM at hb
   rw[abd,hf] at hb
   exact hb
theorem Inv.xY(I:Inv X pins σ H s):∀b∈qM X.stack,H b=none:=fun b hb=>by
 rcases XY.mp (I.vb b hb) with e|hb
 · rw[e];exact I.free
 · obtain⟨_,o,ho,_⟩:=I.ok.sx.mem hb
   exact I.base.free b o ho (I.ok.Kb b hb) fun z=>I.ok.Eh b z hb
theorem Inv.step{g':Array GenState}{t':Nat}{d':Drawn}{ch:List Addr}(I:Inv X pins σ H s)
   (Kc:∀b∈ch,(b∈X.ex∨X.s₀.heap.objs.size≤b)∧b≠X.env.locals∧(∀x c,X.env.cells.lookup x=some c→c≠b)∧∀p∈X.pn++pins,p.1≠b)
   (keep:∀b o,b≠X.env.locals→b∉X.fs→b∉ch→s.heap.get? b=some o→H b=none→h'.get? b=some o)
   (slot:∀b o,b≠X.env.locals→b∈X.fs→b∉ch→s.heap.get? b=some o→H b=none→∃sl,h'.get? b=some {o with slots:=sl}) (free:∀b o,b∉ch→s.heap.get? b=some o→H b=none→H' b=none)
   (there:∀b o,b∉ch→s.heap.get? b=some o→∃o',h'.get? b=some o')
   (pP:∀b xs,H b=some (.tup xs)→H' b=some (.tup xs)) (sY:∀b o u,H b=some (.mK o u)→H' b=some (.mK o u)) (va:∀b ps,H b=some (.Ka ps)→∃more,H' b=some (.Ka (ps++more)))
   (ns:∀m,s.heap.Ns X.env.locals m→h'.Ns X.env.locals m) (iK:qz X.prog X.w H' h') (hg:AllBare g') :
   Inv X pins σ H' {s with heap:=h',gens:=g',drawn:=d',toks:=t'}:=by
 have Yc:∀b o,X.s₀.heap.get? b=some o→b≠X.env.locals:=fun b o e=>aaP (aax (Heap.lt_size e) I.ok.above)
 have S3:∀b o,X.s₀.heap.get? b=some o→b∉X.ex→b∉ch:=fun b o e hx hb=>by
   rcases(Kc b hb).1 with z|z
   · exact hx z
   · exact absurd (aax (Heap.lt_size e) z) (aa_ _)
 have cellK:∀x c,X.env.cells.lookup x=some c→∀v,s.heap.IsCell c v→h'.IsCell c v:=fun x c e v ⟨o,ho,hd⟩=>by
   have QO:c∉ch:=fun z=>(Kc c z).2.2.1 x c e rfl
   by_cases hc:c∈X.fs
   · obtain⟨sl,q⟩:=slot c o (I.MF x c e) hc QO ho (I.ma x c e)
     exact⟨_,q,hd⟩
   · exact⟨o,keep c o (I.MF x c e) hc QO ho (I.ma x c e),hd⟩
 refine⟨I.ok,I.os,hg,⟨fun b o e n hb hx=>?_,fun b o e n hb hx=>?_,fun b o e n hx=>?_,fun b o e hx=>?_,fun b xs e=>pP b xs (I.base.pP b xs e),fun b o xs e=>sY b o xs (I.base.sY b o xs e),fun b ps e=>?_⟩,?_,fun x c e=>?_,?_,fun x c e=>?_,fun p hp=>?_,iK,I.len⟩
 · exact keep b o (Yc b o e) hb (S3 b o e hx) (I.base.keep b o e n hb hx) (I.base.free b o e n hx)
 · obtain⟨sl,e1⟩:=I.base.slot b o e n hb hx
   obtain⟨sl',e2⟩:=slot b _ (Yc b o e) hb (S3 b o e hx) e1 (I.base.free b o e n hx)
   exact⟨sl',e2⟩
 · obtain⟨o',e1⟩:=I.base.there b o e hx
   exact free b o' (S3 b o e hx) e1 (I.base.free b o e n hx)
 · obtain⟨o',e1⟩:=I.base.there b o e hx
   exact there b o' (S3 b o e hx) e1
 · obtain⟨m1,e1⟩:=I.base.va b ps e
   obtain⟨m2,e2⟩:=va b _ e1
   exact⟨m1++m2,by rw[e2,Array.append_assoc]⟩
 · obtain⟨m,hn,hl⟩:=I.loc
   refine⟨m,ns m hn,fun i x v e1 e2 e3=>?_⟩
   obtain⟨u,r,l⟩:=hl i x v e1 e2 e3
   refine⟨u,r,?_⟩
   rcases l with l|⟨k,c,e,z⟩
   · exact .inl l
   · exact .inr ⟨k,c,e,cellK x c e _ z⟩
 · obtain⟨v,z⟩:=I.cell x c e
   exact⟨v,cellK x c e v z⟩
 · obtain⟨m,⟨o,_,_,ho,_⟩,_⟩:=I.loc
   exact free _ o (fun z=>(Kc _ z).2.1 rfl) ho I.free
 · obtain⟨v,o,ho,hd⟩:=I.cell x c e
   exact free c o (fun z=>(Kc c z).2.2.1 x c e rfl) ho (I.ma x c e)
 · obtain⟨e,n,ne,nf,d⟩:=I.pin p hp
   have QO:p.1∉ch:=fun z=>(Kc p.1 z).2.2.2 p hp rfl
   exact⟨keep p.1 p.2 ne nf QO e n,free p.1 p.2 QO e n,ne,nf,d⟩
theorem Inv.un{t':Nat}(I:Inv X pins σ H s)(u:Un X.fs [] H H' s.heap h')(iK:qz X.prog X.w H' h'):Inv X pins σ H' {s with heap:=h',toks:=t'}:=by
 obtain⟨m,⟨o,es,ep,ho,r⟩,_⟩:=id I.loc
 obtain⟨sl,hL⟩:=u.any ho I.free (by simp)
 exact I.step (g':=s.gens) (d':=s.drawn) (ch:=[]) (fun _ z=>nomatch z) (fun b o _ hb _ e n=>u.keep b o e n hb (by simp)) (fun b o _ hb _ e n=>u.slot b o e n hb (by simp)) (fun b o _ e n=>u.free b o e n (by simp)) (fun b o _ e=>u.there b o e (by simp)) u.pP u.sY u.va (fun m' hm=>by
   obtain⟨o',O4,L_,n_,r'⟩:=hm
   rw[ho] at n_;cases n_
   exact⟨_,O4,L_,hL,r'⟩) iK I.bare
theorem Inv.call{g':Array GenState}{t':Nat}{d':Drawn}{ch:List Addr}(I:Inv X pins σ H s)(u:Un (qM X.stack) ch H H' s.heap h')(iK:qz X.prog X.w H' h')(hg:AllBare g')
   (Kc:∀b∈ch,(b∈X.ex∨X.s₀.heap.objs.size≤b)∧b≠X.env.locals∧(∀x c,X.env.cells.lookup x=some c→c≠b)∧∀p∈X.pn++pins,p.1≠b) :
   Inv X pins σ H' {s with heap:=h',gens:=g',drawn:=d',toks:=t'}:=by
 obtain⟨m,⟨o,es,ep,ho,r⟩,_⟩:=id I.loc
 obtain⟨sl,hL⟩:=u.any ho I.free fun z=>(Kc _ z).2.1 rfl
 exact I.step (ch:=ch) Kc (fun b o hL hb hc e n=>u.keep b o e n (fun z=>(XY.mp (I.vb b z)).elim hL hb) hc) (fun b o _ _ hc e n=>u.any e n hc) (fun b o hc e n=>u.free b o e n hc) (fun b o hc e=>u.there b o e hc) u.pP u.sY u.va (fun m' hm=>by
   obtain⟨o',O4,L_,n_,r'⟩:=hm
   rw[ho] at n_;cases n_
   exact⟨_,O4,L_,hL,r'⟩) iK hg
theorem Inv.turned{t':Nat}{it:Addr}(I:Inv X pins σ H s)(k:∀b o,b≠it→s.heap.get? b=some o→h'.get? b=some o)(hn:H it=none)(hL:it≠X.env.locals)
   (h1:it∈X.ex∨X.s₀.heap.objs.size≤it) (h2:∀x c,X.env.cells.lookup x=some c→c≠it) (h3:∀p∈X.pn++pins,p.1≠it):Inv X pins σ H {s with heap:=h',toks:=t'}:=by
 have Yd:∀b u,H b=some u→b≠it:=fun b u e z=>by rw[z,hn] at e;cases e
 refine I.step (g':=s.gens) (d':=s.drawn) (ch:=[it]) (fun b hb=>?_) (fun b o _ _ hc e _=>k b o (fun z=>hc (by simp[z])) e) (fun b o _ _ hc e _=>⟨o.slots,k b o (fun z=>hc (by simp[z])) e⟩) (fun _ _ _ _ n=>n)
   (fun b o hc e=>⟨o,k b o (fun z=>hc (by simp[z])) e⟩) (fun _ _ e=>e) (fun _ _ _ e=>e) (fun b ps e=>⟨#[],by rw[e];simp⟩) (fun m hm=>?_) (fun b u e=>?_) I.bare
 · have e:b=it:=by simpa using hb
   subst e
   exact⟨h1,hL,h2,h3⟩
 · obtain⟨o,es,ep,ho,r⟩:=hm
   exact⟨o,es,ep,k _ o (abq hL) ho,r⟩
 · refine(I.iK b u e).xC (fun c v hc q=>k c v ?_ q) (fun _ q=>q) fun _ _ q=>q
   rcases hc with z|z
   · rw[z];exact Yd b u e
   · exact Yd c _ z
theorem Inv.tok(I:Inv X pins σ H s)(t:Nat):Inv X pins σ H {s with toks:=t}:=I.un (h':=s.heap) (t':=t) Un.refl I.iK
theorem Inv.kept{t':Nat}(I:Inv X pins σ H s)(k:∀b u,s.heap.get? b=some u→h'.get? b=some u):Inv X pins σ H {s with heap:=h',toks:=t'}:=I.un (Un.kept k) (I.iK.kept k)
theorem Inv.laid{a:Addr}{o:HO}{t':Nat}(I:Inv X pins σ H s)(k:∀b u,s.heap.get? b=some u→h'.get? b=some u)(hp:s.heap.objs.size≤a)(new:i8 X.prog X.w (upd H a o) h' a o) :
   Inv X pins σ (upd H a o) {s with heap:=h',toks:=t'}:=I.un (Un.laid k hp (I.iK.fresh hp)) (I.iK.laid k hp new)
theorem Inv.write{x e:Addr}{o:HO}{t':Nat}(I:Inv X pins σ H s)(mu:LO (H x))(he:e=x∨H e=some (.own x))(k:∀b u,b≠e→s.heap.get? b=some u→h'.get? b=some u)(JH:∃u,h'.get? e=some u)
   (new:i8 X.prog X.w (upd H x o) h' x o):Inv X pins σ (upd H x o) {s with heap:=h',toks:=t'}:=I.un (Un.write mu he k JH) (I.iK.write mu he k JH new)
theorem Inv.xZ{Ma:List (Addr×Obj)}(I:Inv X pins σ H s)(h:∀p∈Ma,s.heap.get? p.1=some p.2∧H p.1=none∧p.1≠X.env.locals∧p.1∉X.fs∧∀v,p.2.data≠.cell v):Inv X Ma σ H s:=
 ⟨I.ok,I.os,I.bare,I.base,I.loc,I.cell,I.free,I.ma,fun p hp=>(XW.mp hp).elim (fun z=>I.pin p (aap _ z)) (h p),I.iK,I.len⟩
theorem CJ{N:List Str}(hN:N.Nodup){i j:Nat}{x:Str}(a:N[i]?=some x)(b:N[j]?=some x):i=j:=by
 obtain⟨h1,e1⟩:=Rt.mp a
 obtain⟨h2,e2⟩:=Rt.mp b
 exact(List.getElem_inj hN).mp (e1.trans e2.symm)
theorem Az{M:Model}{A:Around}{E:Value→Shared→Prop}{i:Nat}{x:Str}{v:V}{u:Value}{Q:Unit→Shared→Prop}(I:Inv X pins σ H s)(hN:X.N.Nodup)(hi:X.N[i]?=some x)(hx:Loc X.env.scope x)(r:RelV v u)
   (h:∀s',Inv X pins (σ.set i (some v)) H s'→(∃a,Heap.SameBut a s.heap s'.heap∧(a=X.env.locals∨X.env.cells.lookup x=some a))→Q () s') (hf:X.fn x=true∨X.env.scope.names.lookup x=some .local:=by first|exact .inl rfl|exact .inr rfl|assumption):wpAny M A (storeName X.env x u) Q E s:=by
 obtain⟨m,hn,hl⟩:=id I.loc
 have U_:(X.env.scope.kind ==.class||(X.env.scope.kind ==.module&&X.env.locals != X.env.globals))=false:=by rw[I.ok.kind];rfl
 have Ye:i<σ.length:=by rw[I.len];exact(Rt.mp hi).1
 have MF:=I.MF
 have tracked:∀{a:Addr} {h':Heap},(∃o,s.heap.get? a=some o∧H a=none)→Heap.SameBut a s.heap h'→qz X.prog X.w H h':=fun{a h'} ha hs b ob e=>by
   obtain⟨_,_,rR⟩:=ha
   refine(I.iK b ob e).xC (fun c w' hc q=>(hs.2 c ?_).trans q) (fun _ q=>q) fun _ _ q=>q
   rintro rfl
   rcases hc with rfl|hc
   · rw[rR] at e;cases e
   · rw[rR] at hc;cases hc
 rcases hx with hk|hk
 · refine wpAny_storeName_local hk hn (fun h' O5 hs=>?_) U_
   obtain⟨oL,_,_,hoL,_⟩:=id hn
   refine h _ ⟨I.ok,I.os,I.bare,⟨fun b o e n hb hx=>?_,fun b o e n hb hx=>?_,I.base.free,fun b o e hx=>?_,I.base.pP,I.base.sY,I.base.va⟩,⟨_,O5,fun j y v' e1 e2 e3=>?_⟩,fun y c e=>?_,I.free,I.ma,fun p hp=>?_,tracked ⟨oL,hoL,I.free⟩ hs,by simpa using I.len⟩ ⟨_,hs,.inl rfl⟩
   · exact(hs.2 b (aaP (aax (Heap.lt_size e) I.ok.above))).trans (I.base.keep b o e n hb hx)
   · obtain⟨sl,e1⟩:=I.base.slot b o e n hb hx
     exact⟨sl,(hs.2 b (aaP (aax (Heap.lt_size e) I.ok.above))).trans e1⟩
   · obtain⟨o',e1⟩:=I.base.there b o e hx
     exact⟨o',(hs.2 b (aaP (aax (Heap.lt_size e) I.ok.above))).trans e1⟩
   · by_cases hj:j=i
     · subst hj
       rw[hi] at e1;cases e1
       rw[aa4 Ye] at e2
       cases e2
       exact⟨u,r,.inl ⟨hk,by simp⟩⟩
     · rw[abb (abq hj)] at e2
       obtain⟨u',r',q⟩:=hl j y v' e1 e2 e3
       refine⟨u',r',?_⟩
       rcases q with⟨k,e⟩|⟨k,c,e,z⟩
       · refine .inl ⟨k,?_⟩
         have:y≠x:=fun e=>hj (CJ hN e1 (e▸hi))
         simp[this,e]
       · exact .inr ⟨k,c,e,z.sameBut hs (MF y c e)⟩
   · obtain⟨w',z⟩:=I.cell y c e
     exact⟨w',z.sameBut hs (MF y c e)⟩
   · obtain⟨e,n,ne,nf,d⟩:=I.pin p hp
     exact⟨(hs.2 p.1 ne).trans e,n,ne,nf,d⟩
 · have Mb:X.fn x=true:=by
     rcases hf with z|z
     · exact z
     · rw[z] at hk;cases hk
   obtain⟨c,hc⟩:=I.ok.has x (.inl hk)
   obtain⟨w',z⟩:=I.cell x c hc
   refine wpAny_storeName_cell I.ok.kind hk hc z (fun h' Be hs=>?_)
   obtain⟨oc,Yf,Va⟩:=id z
   refine h {s with heap:=h'} ⟨I.ok,I.os,I.bare,⟨fun b o e n hb hx=>?_,fun b o e n hb hx=>?_,I.base.free,fun b o e hx=>?_,I.base.pP,I.base.sY,I.base.va⟩,⟨m,hn.sameBut hs (abq (MF x c hc)),fun j y v' e1 e2 e3=>?_⟩,fun y c' e=>?_,I.free,I.ma,fun p hp=>?_,tracked ⟨oc,Yf,I.ma x c hc⟩ hs,by simpa using I.len⟩ ⟨c,hs,.inr hc⟩
   · exact(hs.2 b (aaP (aax (Heap.lt_size e) (I.ok.LP x c Mb hc)))).trans (I.base.keep b o e n hb hx)
   · obtain⟨sl,e1⟩:=I.base.slot b o e n hb hx
     exact⟨sl,(hs.2 b (aaP (aax (Heap.lt_size e) (I.ok.LP x c Mb hc)))).trans e1⟩
   · obtain⟨o',e1⟩:=I.base.there b o e hx
     exact⟨o',(hs.2 b (aaP (aax (Heap.lt_size e) (I.ok.LP x c Mb hc)))).trans e1⟩
   · by_cases hj:j=i
     · subst hj
       rw[hi] at e1;cases e1
       rw[aa4 Ye] at e2
       cases e2
       exact⟨u,r,.inr ⟨.inl hk,c,hc,Be⟩⟩
     · rw[abb (abq hj)] at e2
       obtain⟨u',r',q⟩:=hl j y v' e1 e2 e3
       refine⟨u',r',?_⟩
       rcases q with q|⟨k,c',e,z'⟩
       · exact .inl q
       · refine .inr ⟨k,c',e,z'.sameBut hs ?_⟩
         rintro rfl
         exact hj (CJ hN e1 (I.ok.inj _ _ _ e hc▸hi))
   · by_cases Yg:c'=c
     · subst Yg;exact⟨_,Be⟩
     · obtain⟨w2,z2⟩:=I.cell y c' e
       exact⟨w2,z2.sameBut hs Yg⟩
   · obtain⟨e,n,ne,nf,d⟩:=I.pin p hp
     refine⟨(hs.2 p.1 ?_).trans e,n,ne,nf,d⟩
     intro q
     rw[q,Yf] at e
     have q':oc=p.2:=aau e
     exact d w' (by rw[←q'];exact Va)
theorem CK{M:Model}{A:Around}{E:Value→Shared→Prop}{i:Nat}{x:Str}{v:V}{u:Value}{Q:Unit→Shared→Prop}(I:Inv X pins σ H s)(hN:X.N.Nodup)(hi:X.N[i]?=some x)(hx:Loc X.env.scope x)(r:RelV v u)
   (h:∀s',Inv X pins (σ.set i (some v)) H s'→Q () s') (hf:X.fn x=true∨X.env.scope.names.lookup x=some .local:=by first|exact .inl rfl|exact .inr rfl|assumption):wpAny M A (storeName X.env x u) Q E s:=
 Az I hN hi hx r (fun s' I' _=>h s' I') hf
theorem Inv.LQ{s':Shared}{ch:List Addr}(I:Inv X pins σ H s)(ho:s'.os=s.os)(u:Un (qM X.stack) ch H H' s.heap s'.heap)(iK:qz X.prog X.w H' s'.heap)(hg:AllBare s'.gens)
   (Kc:∀b∈ch,(b∈X.ex∨X.s₀.heap.objs.size≤b)∧b≠X.env.locals∧(∀x c,X.env.cells.lookup x=some c→c≠b)∧∀p∈X.pn++pins,p.1≠b):Inv X pins σ H' s':=by
 obtain⟨h',g',d',t',o'⟩:=s'
 have e:o'=s.os:=ho
 subst e
 exact I.call (g':=g') (t':=t') (d':=d') u iK hg Kc
end
abbrev XK:=Value→Option Addr→Hp→Prop
abbrev St:=List (Option V)
abbrev VK:=V→Hp→Prop
abbrev TE:=St→Hp→VK→Prop
abbrev TT:=St→Hp→(Bool→Hp→Prop)→Prop
abbrev TA:=St→Hp→(List V→Hp→Prop)→Prop
structure Ends where
 nx:St→Hp→Prop
 rt:VK
 bk:St→Hp→Prop:=fun _ _=>False
 ct:St→Hp→Prop:=fun _ _=>False
abbrev TS:=Ends→St→Hp→Prop
def EP(X:Cx)(pins:List (Addr×Obj))(σ:St)(Q:VK)(u:Value)(s':Shared):Prop:=∃v H',Inv X pins σ H' s'∧RelV v u∧Q v H'
def TP(X:Cx)(pins:List (Addr×Obj))(σ:St)(Q:Bool→Hp→Prop)(b:Bool)(s':Shared):Prop:=∃H',Inv X pins σ H' s'∧Q b H'
def AP(X:Cx)(pins:List (Addr×Obj))(σ:St)(Q:List V→Hp→Prop)(us:List Value)(s':Shared):Prop:=∃vs H',Inv X pins σ H' s'∧Vals vs us∧Q vs H'
def SP(X:Cx)(pins:List (Addr×Obj))(D:Ends)(f:Flow)(s':Shared):Prop:=
 match f with
 | .next=>∃σ' H',Inv X pins σ' H' s'∧D.nx σ' H'
 | .brk=>∃σ' H',Inv X pins σ' H' s'∧D.bk σ' H'
 | .cont=>∃σ' H',Inv X pins σ' H' s'∧D.ct σ' H'
 | .ret u=>∃v σ' H',Inv X pins σ' H' s'∧RelV v u∧D.rt v H'
def PE(X:Cx)(e:Expr)(t:TE):Prop:=
 ∀(pins:List (Addr×Obj))(s:Shared)(σ:St)(H:Hp)(Q:VK),Inv X pins σ H s→t σ H Q→wpAny (model X.prog X.w) X.A (eval e X.env) (EP X pins σ Q) X.xe s
def PT(X:Cx)(e:Expr)(t:TT):Prop:=
 ∀(pins:List (Addr×Obj))(s:Shared)(σ:St)(H:Hp)(Q:Bool→Hp→Prop),Inv X pins σ H s→t σ H Q→wpAny (model X.prog X.w) X.A (isTrue e X.env (eval e X.env)) (TP X pins σ Q) X.xe s
def PW(X:Cx)(e:Expr)(t:TT):Prop:=
 ∀(whole:Sem Value)(pins:List (Addr×Obj))(s:Shared)(σ:St)(H:Hp)(Q:Bool→Hp→Prop),Inv X pins σ H s→t σ H Q→wpAny (model X.prog X.w) X.A (isTrue e X.env whole) (TP X pins σ Q) X.xe s
theorem PW.pt{X:Cx}{e:Expr}{t:TT}(h:PW X e t):PT X e t:=h _
def PA(X:Cx)(es:List Expr)(t:TA):Prop:=
 ∀(pos:Pos)(pins:List (Addr×Obj))(s:Shared)(σ:St)(H:Hp)(Q:List V→Hp→Prop),Inv X pins σ H s→t σ H Q→wpAny (model X.prog X.w) X.A (spliced (backTo pos (starEach es X.env))) (AP X pins σ Q) X.xe s
def PS(X:Cx)(st:Stmt)(t:TS):Prop:=
 ∀(pins:List (Addr×Obj))(s:Shared)(σ:St)(H:Hp)(D:Ends),Inv X pins σ H s→t D σ H→wpAny (model X.prog X.w) X.A (exec st X.env) (SP X pins D) X.xe s
def Ed(X:Cx)(st:List Stmt)(t:TS):Prop:=
 ∀(pins:List (Addr×Obj))(s:Shared)(σ:St)(H:Hp)(D:Ends),Inv X pins σ H s→t D σ H→wpAny (model X.prog X.w) X.A (execs st X.env) (SP X pins D) X.xe s
theorem i7{α:Type}{t:Sem α}{Q Q':α→Shared→Prop}{M:Model}{A:Around}{E:Value→Shared→Prop}{s:Shared}(h:wpAny M A t Q E s)(hQ:∀a s,Q a s→Q' a s):wpAny M A t Q' E s:=wpAny_mono h hQ fun _ _ x=>x
section
variable{X:Cx}
def Pz(i:Nat):TE:=fun σ H Q=>∃v,σ[i]?=some (some v)∧Q v H
def tC(v:V):TE:=fun _ H Q=>Q v H
theorem MG{i:Nat}{x:Str}{pos:Pos}(hN:X.N[i]?=some x)(hv:T_ X.env.scope x)(hd:(x ==("__debug__":Str))=false:=by decide)(Bf:(x ==("__classdict__":Str))=false:=by decide):PE X (.Name x pos) (Pz i):=by
 intro pins s σ H Q I h
 obtain⟨v,e,h⟩:=h
 obtain⟨m,hn,hl⟩:=I.loc
 obtain⟨u,r,l⟩:=hl i x v hN e hv
 have fin:EP X pins σ Q u s:=⟨v,H,I,r,h⟩
 rcases l with⟨hk,hm⟩|⟨hk,c,hc,Mc⟩
 · exact wpAny_Name (wpAny_loadName_local I.ok.kind hk hn hm fin) hd
 · rcases hk with hk|hk
   · exact wpAny_Name (wpAny_loadName_cell I.ok.kind hk hc Mc fin) hd
   · exact wpAny_Name (wpAny_loadName_free I.ok.kind hk hc Mc fin Bf) hd
theorem f_{i j pos}:PE X (.Constant (.int i) j pos) (tC (.int i)):=fun _ _ _ H _ I h=>wpAny_Constant_int ⟨.int i,H,I.tok _,⟨_,rfl⟩,h⟩
theorem kS{b j pos}:PE X (.Constant (.bool b) j pos) (tC (.bl b)):=fun _ _ _ H _ I h=>Constant_bool ⟨.bl b,H,I,rfl,h⟩
theorem sZ{j pos}:PE X (.Constant .none j pos) (tC .jx):=fun _ _ _ H _ I h=>Constant_none ⟨.jx,H,I,rfl,h⟩
theorem ja{x j pos}:PE X (.Constant (.str x) j pos) (tC (.str x)):=fun _ _ _ H _ I h=>Calls.Constant_str ⟨.str x,H,I.tok _,⟨_,rfl⟩,h⟩
def Gl(X:Cx)(x:Str):Prop:=X.env.kindOf x=some .globalImplicit
theorem rX{E:Value→Shared→Prop}{pins:List (Addr×Obj)}{s:Shared}{σ:St}{H:Hp}{x:Str}{u:Value}{pos:Pos}{Q:Value→Shared→Prop}(I:Inv X pins σ H s)(hg:Gl X x)(hm:X.mg x=some u)(h:Q u s)
   (hd:(x ==("__debug__":Str))=false:=by decide):wpAny (model X.prog X.w) X.A (eval (.Name x pos) X.env) Q E s:=
 Calls.Name_function_global I.ok.kind hg (Calls.loadGlobal_global (by rw[I.ok.glob];exact I.mod.glob.keeps I.bk) hm h) hd
theorem oO{E:Value→Shared→Prop}{pins:List (Addr×Obj)}{s:Shared}{σ:St}{H:Hp}{x:Str}{u:Value}{pos:Pos}{Q:Value→Shared→Prop}(I:Inv X pins σ H s)(hg:Gl X x)(hm:X.mg x=none)(hv:bootBuiltins x=some u)(h:Q u s)
   (hn:x≠"__name__":=by decide) (hd:(x ==("__debug__":Str))=false:=by decide):wpAny (model X.prog X.w) X.A (eval (.Name x pos) X.env) Q E s:=by
 obtain⟨mb,h1,h2⟩:=I.mod.blt
 exact Calls.Name_function_global I.ok.kind hg (Calls.loadGlobal_builtin (by rw[I.ok.glob];exact I.mod.glob.keeps I.bk) hm (by rw[I.ok.blt];exact h1.keeps I.bk) ((h2 x hn).trans hv) h) hd
theorem Bi{x:Str}{v:V}{u:Value}{pos:Pos}(hg:Gl X x)(hm:X.mg x=some u)(r:RelV v u)(hd:(x ==("__debug__":Str))=false:=by decide):PE X (.Name x pos) (tC v):=
 fun _ _ _ H _ I h=>rX I hg hm ⟨v,H,I,r,h⟩ hd
theorem Fm{x:Str}{v:V}{u:Value}{pos:Pos}(hg:Gl X x)(hm:X.mg x=none)(hv:bootBuiltins x=some u)(r:RelV v u)(hn:x≠"__name__":=by decide)(hd:(x ==("__debug__":Str))=false:=by decide):PE X (.Name x pos) (tC v):=
 fun _ _ _ H _ I h=>oO I hg hm hv ⟨v,H,I,r,h⟩ hn hd
variable{a b:Expr}{ta tb:TE}{pos:Pos}
def PC(X:Cx)(op:CmpOp)(a b:Expr)(t:TE):Prop:=
 ∀(pins:List (Addr×Obj))(s:Shared)(σ:St)(H:Hp)(Q:VK),Inv X pins σ H s→t σ H Q→
   wpAny (model X.prog X.w) X.A (eval a X.env) (fun v s₁=>wpAny (model X.prog X.w) X.A (eval b X.env) (fun u s₂=>wpAny (model X.prog X.w) X.A (compareOp op v u) (EP X pins σ Q) X.xe s₂) X.xe s₁) X.xe s
theorem CL(b:Expr){op:CmpOp}(h:op≠.In)(h2:op≠.NotIn):behindInMarks op b=false:=by
 have e1:(op ==CmpOp.In)=false:=by cases op<;>first|rfl|exact absurd rfl h
 have e2:(op ==CmpOp.NotIn)=false:=by cases op<;>first|rfl|exact absurd rfl h2
 cases b<;>simp[behindInMarks,e1,e2]
def PB(ta:TE):TE:=fun σ H Q=>ta σ H fun x H1=>Q (.bl (!decide (x=.jx))) H1
theorem RelV.HG{x:V}{v:Value}(r:RelV x v):(v ==Value.none)=decide (x=.jx):=by
 cases x with
 | jx=>cases r;rfl
 | bl _=>cases r;rfl
 | int _=>obtain⟨t,rfl⟩:=r;rfl
 | str _=>obtain⟨t,rfl⟩:=r;rfl
 | Eg _=>obtain⟨t,rfl⟩:=r;rfl
 | LN _=>obtain⟨t,rfl⟩:=r;rfl
 | ref _=>cases r;rfl
 | ty _=>cases r;rfl
theorem pQ{j pos'}(ha:PE X a ta):PC X .IsNot a (.Constant .none j pos') (PB ta):=by
 intro pins s σ H Q I h
 refine i7 (ha pins s σ H _ I h) fun v s1 ⟨x,H1,I1,r1,q1⟩=>?_
 exact Constant_none (isnot_none_gen ⟨.bl _,H1,I1,by rw[r1.HG];rfl,q1⟩)
def tB(t:TE):TT:=fun σ H Q=>t σ H fun x H1=>∃c,x=.bl c∧Q c H1
theorem MH{op:CmpOp}{t:TE}(h:PC X op a b t)(h1:behindInMarks op b=false:=by first|exact CL _ (by decide) (by decide)|rfl):PE X (.Compare a [op] [b] pos) t:=fun pins s σ H Q I hw=>wpAny_Compare1 (h pins s σ H Q I hw) h1
theorem jn{op:CmpOp}{t:TE}(h:PC X op a b t)(h1:behindInMarks op b=false:=by first|exact CL _ (by decide) (by decide)|rfl):PT X (.Compare a [op] [b] pos) (tB t):=by
 intro pins s σ H Q I hw
 refine wpAny_isTrue_Compare1 (i7 (h pins s σ H _ I hw) fun v s1 h1=>i7 h1 fun u s2 h2=>i7 h2 fun c s3 ⟨x,H1,I1,r1,q1⟩=>?_) h1
 obtain⟨d,rfl,q⟩:=q1
 cases r1
 exact wpAny_truthy_bool ⟨H1,I1,q⟩
theorem pR{e:Expr}{t:TE}(h:PE X e t)(he:∀whole,isTrue e X.env whole=(do let v ←whole;standAt e.pos;holding [v] (truthy v)):=by intro _;rfl):PT X e (tB t):=by
 intro pins s σ H Q I hw
 refine isTrue_plain (i7 (h pins s σ H _ I hw) fun v s1 ⟨x,H1,I1,r1,q1⟩=>?_) (he _)
 obtain⟨d,rfl,q⟩:=q1
 cases r1
 exact wpAny_truthy_bool ⟨H1,I1,q⟩
variable{tA S4:TT}{rest:List Expr}
def Ua(t u:TT):TT:=fun σ H Q=>t σ H fun c H1=>if c=true then u σ H1 Q else Q false H1
def tOr(t u:TT):TT:=fun σ H Q=>t σ H fun c H1=>if c=true then Q true H1 else u σ H1 Q
def Ub(t:TT):TT:=fun σ H Q=>t σ H fun c H1=>Q (!c) H1
theorem pw_and1(ha:PT X a tA):PW X (.BoolOp .And [a] pos) tA:=by
 intro wh pins s σ H Q I h
 refine isTrue_and (i7 (ha pins s σ H Q I h) fun c s1 e=>?_)
 cases c with
 | true=>exact isTrue_and_nil e
 | false=>exact e
theorem pw_or1(ha:PT X a tA):PW X (.BoolOp .Or [a] pos) tA:=by
 intro wh pins s σ H Q I h
 refine isTrue_or (i7 (ha pins s σ H Q I h) fun c s1 e=>?_)
 cases c with
 | false=>exact isTrue_or_nil e
 | true=>exact e
theorem pw_and(ha:PT X a tA)(hb:PW X (.BoolOp .And (b::rest) pos) S4):PW X (.BoolOp .And (a::b::rest) pos) (Ua tA S4):=by
 intro wh pins s σ H Q I h
 refine isTrue_and (i7 (ha pins s σ H _ I h) fun c s1 ⟨H1,I1,q1⟩=>?_)
 cases c with
 | true=>exact hb wh pins s1 σ H1 Q I1 q1
 | false=>exact⟨H1,I1,q1⟩
theorem pw_or(ha:PT X a tA)(hb:PW X (.BoolOp .Or (b::rest) pos) S4):PW X (.BoolOp .Or (a::b::rest) pos) (tOr tA S4):=by
 intro wh pins s σ H Q I h
 refine isTrue_or (i7 (ha pins s σ H _ I h) fun c s1 ⟨H1,I1,q1⟩=>?_)
 cases c with
 | true=>exact⟨H1,I1,q1⟩
 | false=>exact hb wh pins s1 σ H1 Q I1 q1
theorem nB(ha:PT X a tA):PT X (.UnaryOp .Not a pos) (Ub tA):=by
 intro pins s σ H Q I h
 exact isTrue_not (ha pins s σ H (fun c H1=>Q (!c) H1) I h)
end
def g_(K:PySem.W.Frag)(H:Hp)(a:Addr)(xs:List V):Prop:=
 Rd H a (.lst xs)∨
   ∃(o:Obj)(ia:Array Value)(n:Nat),K.lookup a=some o∧o.cls=.type "list"∧o.dict=none∧o.data=.seq ia n∧ia.size≤sizeLine∧Vals xs ia.toList
def u_(K:PySem.W.Frag)(H:Hp)(a:Addr)(xs:List V):Prop:=
 Rd H a (.tup xs)∨
   ∃(o:Obj)(ia:Array Value)(n:Nat),K.lookup a=some o∧o.cls=.type "tuple"∧o.data=.seq ia n∧ia.size≤sizeLine∧Vals xs ia.toList
def Uc:Value→Option V
 | .none=>some .jx
 | .bool b=>some (.bl b)
 | .int i _=>some (.int i)
 | .str x _=>some (.str x)
 | .bytes b _=>some (.Eg b)
 | .float b _=>some (.LN b)
 | .ref a=>some (.ref a)
 | .type n=>some (.ty n)
 | _=>none
theorem RelV.abs{x:V}{u:Value}(r:RelV x u):Uc u=some x:=by
 cases x with
 | jx=>cases r;rfl
 | bl _=>cases r;rfl
 | int _=>obtain⟨t,rfl⟩:=r;rfl
 | str _=>obtain⟨t,rfl⟩:=r;rfl
 | Eg _=>obtain⟨t,rfl⟩:=r;rfl
 | LN _=>obtain⟨t,rfl⟩:=r;rfl
 | ref _=>cases r;rfl
 | ty _=>cases r;rfl
theorem RelV.inj{x y:V}{u:Value}(r:RelV x u)(q:RelV y u):x=y:=aau (r.abs.symm.trans q.abs)
theorem Vals.inj:∀{xs ys:List V} {us:List Value},Vals xs us→Vals ys us→xs=ys
 | _,_,_,.nil,.nil=>rfl
 | _,_,_,.cons r t,.cons r' t'=>by rw[r.inj r',Vals.inj t t']
section
variable{X:Cx}{pins:List (Addr×Obj)}{σ:St}{H:Hp}{s:Shared}{a:Addr}{xs ys:List V}
theorem g_.of{K:PySem.W.Frag}(h:H a=some (.lst xs)):g_ K H a xs:=.inl (.inl h)
theorem u_.of{K:PySem.W.Frag}(h:H a=some (.tup xs)):u_ K H a xs:=.inl (.inl h)
theorem Inv.list(I:Inv X pins σ H s)(h:g_ X.K H a xs):∃ia:List Value,Vals xs ia∧PlainL s.heap a ia.toArray∧xs.length≤sizeLine:=by
 rcases h with h|⟨o,ia,n,hk,hc,hd,hs,hz,r⟩
 · obtain⟨z,ia,n,r,e⟩:=h.ok I.iK
   exact⟨ia,r,⟨_,n,e,rfl,rfl,rfl⟩,z⟩
 · refine⟨ia.toList,r,⟨o,n,I.tZ a o hk,hc,hd,by simpa using hs⟩,?_⟩
   have e:=r.length
   simp only [aa0] at e
   omega
theorem Inv.tuple(I:Inv X pins σ H s)(h:u_ X.K H a xs):∃ia:List Value,Vals xs ia∧IsTup s.heap a ia.toArray∧xs.length≤sizeLine:=by
 rcases h with h|⟨o,ia,n,hk,hc,hs,hz,r⟩
 · obtain⟨z,ia,r,p⟩:=h.ok I.iK
   exact⟨ia,r,p,z⟩
 · refine⟨ia.toList,r,⟨o,I.tZ a o hk,hc,n,by simpa using hs⟩,?_⟩
   have e:=r.length
   simp only [aa0] at e
   omega
theorem Inv.o4(I:Inv X pins σ H s)(h:g_ X.K H a xs)(h':g_ X.K H a ys):xs=ys:=by
 obtain⟨ia,r,⟨o,n,e,_,_,d⟩,_⟩:=I.list h
 obtain⟨its',r',⟨o',n',e',_,_,d'⟩,_⟩:=I.list h'
 rw[e] at e';cases e'
 rw[d] at d'
 injection d' with d1 _
 have:ia=its':=by simpa using aaW Array.toList d1
 subst this
 exact r.inj r'
theorem Inv.Gm(I:Inv X pins σ H s)(h:u_ X.K H a xs)(h':u_ X.K H a ys):xs=ys:=by
 obtain⟨ia,r,⟨o,e,_,n,d⟩,_⟩:=I.tuple h
 obtain⟨its',r',⟨o',e',_,n',d'⟩,_⟩:=I.tuple h'
 rw[e] at e';cases e'
 rw[d] at d'
 injection d' with d1 _
 have:ia=its':=by simpa using aaW Array.toList d1
 subst this
 exact r.inj r'
end
abbrev Cx.z8(X:Cx)(E:Value→Shared→Prop):Cx:={X with xe:=E}
abbrev Cx.SK(X:Cx):Cx:=X.z8 fun _ _=>False
theorem Cx.Ok.z8{X:Cx}(ok:X.Ok)(E:Value→Shared→Prop):(X.z8 E).Ok:=
 ⟨ok.mod,ok.kind,ok.glob,ok.blt,ok.above,ok.inj,ok.has,ok.LP,ok.hd,ok.frames,ok.ME,ok.Px,ok.bs,ok.HF,ok.qN,ok.Eh,ok.sx,ok.Kb⟩
theorem Cx.Ok.qO{X:Cx}{E:Value→Shared→Prop}(ok:(X.z8 E).Ok):X.Ok:=
 ⟨ok.mod,ok.kind,ok.glob,ok.blt,ok.above,ok.inj,ok.has,ok.LP,ok.hd,ok.frames,ok.ME,ok.Px,ok.bs,ok.HF,ok.qN,ok.Eh,ok.sx,ok.Kb⟩
section
variable{X:Cx}{pins:List (Addr×Obj)}{σ:St}{H:Hp}{s:Shared}{E:Value→Shared→Prop}
theorem Inv.z8(I:Inv X pins σ H s)(E:Value→Shared→Prop):Inv (X.z8 E) pins σ H s:=⟨I.ok.z8 E,I.os,I.bare,I.base,I.loc,I.cell,I.free,I.ma,I.pin,I.iK,I.len⟩
theorem Inv.qO(I:Inv (X.z8 E) pins σ H s):Inv X pins σ H s:=⟨I.ok.qO,I.os,I.bare,I.base,I.loc,I.cell,I.free,I.ma,I.pin,I.iK,I.len⟩
theorem SP.qO{D:Ends}{f:Flow}{s':Shared}(h:SP (X.z8 E) pins D f s'):SP X pins D f s':=by
 cases f with
 | next=>obtain⟨σ',H',I,q⟩:=h;exact⟨σ',H',I.qO,q⟩
 | brk=>obtain⟨σ',H',I,q⟩:=h;exact⟨σ',H',I.qO,q⟩
 | cont=>obtain⟨σ',H',I,q⟩:=h;exact⟨σ',H',I.qO,q⟩
 | ret u=>obtain⟨v,σ',H',I,r,q⟩:=h;exact⟨v,σ',H',I.qO,r,q⟩
theorem Ed.SK{st:List Stmt}{t:TS}(h:Ed X.SK st t):Ed X st t:=fun pins s σ H D I hw=>
 wpAny_mono (h pins s σ H D (I.z8 _) hw) (fun _ _ q=>q.qO) fun _ _ z=>False.elim z
end
section
variable{X:Cx}{st:Stmt}{rest:List Stmt}{t u:TS}{e:Expr}{te:TE}{pos:Pos}
def PD:TS:=fun D σ H=>D.nx σ H
def ik(t u:TS):TS:=fun D σ H=>t {D with nx:=u D} σ H
theorem ib:Ed X [] PD:=fun _ _ σ H _ I h=>wpAny_execs_nil ⟨σ,H,I,h⟩
theorem c_(h1:PS X st t)(h2:Ed X rest u):Ed X (st::rest) (ik t u):=by
 intro pins s σ H D I h
 refine wpAny_execs_cons (i7 (h1 pins s σ H {D with nx:=u D} I h) fun f s1 q=>?_)
 cases f with
 | next=>
   obtain⟨σ',H',I',q⟩:=q
   exact h2 pins s1 σ' H' D I' q
 | ret v=>exact q
 | brk=>exact q
 | cont=>exact q
theorem e_(h1:PS X st t):Ed X [st] t:=by
 intro pins s σ H D I h
 refine wpAny_execs_cons (i7 (h1 pins s σ H D I h) fun f s1 q=>?_)
 cases f with
 | next=>exact wpAny_execs_nil q
 | ret v=>exact q
 | brk=>exact q
 | cont=>exact q
def PH:TS:=fun D σ H=>D.ct σ H
theorem CM:PS X (.Continue pos) PH:=fun _ _ σ H _ I h=>wpAny_Continue ⟨σ,H,I,h⟩
theorem Inv.quiet{pins:List (Addr×Obj)}{σ:St}{H:Hp}{s:Shared}(I:Inv X pins σ H s):interactive X.env=false:=by simp[interactive,I.ok.kind]
def PJ(te:TE):TS:=fun D σ H=>te σ H fun _ H1=>D.nx σ H1
theorem hZ(he:PE X e te)(hs:swapsWith e none pos.line X.env=pure false:=by rfl):PS X (.Expr e pos) (PJ te):=by
 intro pins s σ H D I h
 exact wpAny_Expr_any (i7 (he pins s σ H _ I h) fun v s1 ⟨x,H1,I1,r1,q1⟩=>⟨σ,H1,I1,q1⟩) I.quiet hs
def Ud(te:TE):TS:=fun D σ H=>te σ H D.rt
theorem h_(he:PE X e te):PS X (.Return (some e) pos) (Ud te):=by
 intro pins s σ H D I h
 exact wpAny_Return_some (i7 (he pins s σ H _ I h) fun v s1 ⟨x,H1,I1,r1,q1⟩=>⟨x,σ,H1,I1,r1,q1⟩)
def Ue(c:TT)(t u:TS):TS:=fun D σ H=>c σ H fun b H1=>if b=true then t D σ H1 else u D σ H1
theorem iF{c:Expr}{a b:List Stmt}{tc:TT}(hc:PT X c tc)(ha:Ed X a t)(hb:Ed X b u):PS X (.If c a b pos) (Ue tc t u):=by
 intro pins s σ H D I h
 refine wpAny_If (i7 (hc pins s σ H _ I h) fun d s1 ⟨H1,I1,q1⟩=>?_)
 cases d with
 | true=>exact ha pins s1 σ H1 D I1 q1
 | false=>exact hb pins s1 σ H1 D I1 q1
end
abbrev TG:=V→St→Hp→(St→Hp→Prop)→Prop
abbrev MJ:=List V→St→Hp→(St→Hp→Prop)→Prop
def PG(X:Cx)(target:Expr)(t:TG):Prop:=
 ∀(pins:List (Addr×Obj))(s:Shared)(σ:St)(H:Hp)(v:V)(u:Value)(Q:St→Hp→Prop),Inv X pins σ H s→RelV v u→t v σ H Q→
   wpAny (model X.prog X.w) X.A (assign target X.env u) (fun _ s'=>∃σ' H',Inv X pins σ' H' s'∧Q σ' H') X.xe s
def SM(X:Cx)(ts:List Expr)(t:MJ):Prop:=
 ∀(pins:List (Addr×Obj))(s:Shared)(σ:St)(H:Hp)(vs:List V)(us:List Value)(Q:St→Hp→Prop),Inv X pins σ H s→Vals vs us→t vs σ H Q→
   wpAny (model X.prog X.w) X.A (assignInOrder ((assignEach ts X.env).map (·.2)) us) (fun _ s'=>∃σ' H',Inv X pins σ' H' s'∧Q σ' H') X.xe s
abbrev MK:=V→V→V→Hp→(Hp→Prop)→Prop
def PL(X:Cx)(t:MK):Prop:=
 ∀(pins:List (Addr×Obj))(s:Shared)(σ:St)(H:Hp)(o i v:V)(ov iv u:Value)(Q:Hp→Prop),Inv X pins σ H s→RelV o ov→RelV i iv→RelV v u→t o i v H Q→
   wpAny (model X.prog X.w) X.A (setItem ov iv u) (fun _ s'=>∃H',Inv X pins σ H' s'∧Q H') X.xe s
section
variable{X:Cx}{pos:Pos}
def Fn(i:Nat):TG:=fun v σ H Q=>Q (σ.set i (some v)) H
theorem gr{i:Nat}{x:Str}(hN:X.N.Nodup)(hi:X.N[i]?=some x)(hx:Loc X.env.scope x)(hf:X.fn x=true∨X.env.scope.names.lookup x=some .local:=by first|exact .inl rfl|exact .inr rfl|assumption):PG X (.Name x pos) (Fn i):=by
 intro pins s σ H v u Q I r h
 exact wpAny_assign_Name (CK I hN hi hx r (fun s' I'=>⟨_,H,I',h⟩) hf)
def Ug:MJ:=fun vs σ H Q=>vs=[]∧Q σ H
def PN(t:TG)(u:MJ):MJ:=fun vs σ H Q=>∃v r,vs=v::r∧t v σ H fun σ' H'=>u r σ' H' Q
theorem Fo:SM X [] Ug:=by
 intro pins s σ H vs us Q I r h
 obtain⟨e,h⟩:=h
 subst e
 cases r
 exact assignInOrder_nil ⟨σ,H,I,h⟩
theorem t_{e:Expr}{es:List Expr}{t:TG}{u:MJ}(h1:PG X e t)(h2:SM X es u)
   (hs:(assignEach (e::es) X.env).map (·.2)=assign e X.env::(assignEach es X.env).map (·.2):=by rfl):SM X (e::es) (PN t u):=by
 intro pins s σ H vs us Q I r h
 obtain⟨v,vr,e1,h⟩:=h
 subst e1
 cases r with
 | cons r rr=>
   rw[hs]
   refine assignInOrder_cons (i7 (h1 pins s σ H _ _ _ I r h) fun _ s1 ⟨σ1,H1,I1,q1⟩=>?_)
   exact h2 pins s1 σ1 H1 _ _ Q I1 rr q1
def Uh(K:PySem.W.Frag)(n:Nat)(t:MJ):TG:=fun v σ H Q=>∃a xs,v=.ref a∧u_ K H a xs∧xs.length=n∧t xs σ H Q
theorem HH{es:List Expr}{k:Nat}{t:MJ}{n:Nat}(hc:X.calm=true)(h:SM X es t)
   (hn:(assignEach es X.env).length=n:=by rfl) (xS:(assignEach es X.env).findIdx? (·.1)=none:=by rfl):PG X (.Tuple es k pos) (Uh X.K n t):=by
 intro pins s σ H v u Q I r hw
 obtain⟨a,xs,e1,hq,hl,hw⟩:=hw
 subst e1
 cases r
 obtain⟨ia,rv,ht,hz⟩:=I.tuple hq
 refine assign_Tuple_tuple (I.ok.hd hc) ht (by simp[hn,←hl,rv.length]) xS fun h' hx=>?_
 have I1:Inv X pins σ H {s with heap:=h'}:=I.kept (t':=s.toks) fun b o e=>hx b o (aaP (Heap.lt_size e)) e
 exact h pins _ σ H xs _ Q I1 (by simpa using rv) hw
def Ui(to ti:TE)(t:MK):TG:=fun v σ H Q=>to σ H fun o H1=>ti σ H1 fun i H2=>t o i v H2 fun H3=>Q σ H3
theorem Bj{o i:Expr}{to ti:TE}{t:MK}(ho:PE X o to)(hi:PE X i ti)(hs:PL X t)
   (ha:∀v,assign (.Subscript o i pos) X.env v=(do
     let ov ←holding [v] (eval o X.env)
     let iv ←holding [v,ov] (eval i X.env)
     standAt pos
     holding [v,ov,iv] (setItem ov iv v)
     release [v,ov,iv] []):=by intro _;rfl):PG X (.Subscript o i pos) (Ui to ti t):=by
 intro pins s σ H v u Q I r h
 rw[ha]
 refine wpAny_bind (wpAny_holding (i7 (ho pins s σ H _ I h) fun ov s1 ⟨x,H1,I1,r1,q1⟩=>?_))
 refine wpAny_bind (wpAny_holding (i7 (hi pins s1 σ H1 _ I1 q1) fun iv s2 ⟨y,H2,I2,r2,q2⟩=>?_))
 refine wpAny_bind (wpAny_standAt (wpAny_bind (wpAny_holding (i7 (hs pins s2 σ H2 x y v ov iv u _ I2 r1 r2 r q2) fun _ s3 ⟨H3,I3,q3⟩=>?_))))
 exact wpAny_release ⟨σ,H3,I3,q3⟩
def Km(te:TE)(g:TG):TS:=fun D σ H=>te σ H fun x H1=>g x σ H1 D.nx
theorem Bk{tg e:Expr}{te:TE}{g:TG}(he:PE X e te)(hg:PG X tg g)(hs:swapsWithSole [tg] e pos.line X.env=pure false:=by rfl)(hw:swappedStores [tg] e X.env=pure none:=by rfl)
   (h1:(assignEach [tg] X.env).map (·.2)=[assign tg X.env]:=by rfl):PS X (.Assign [tg] e pos) (Km te g):=by
 intro pins s σ H D I h
 refine wpAny_Assign_stores (i7 (he pins s σ H _ I h) fun v s1 ⟨x,H1,I1,r1,q1⟩=>?_) hs hw
 rw[h1]
 exact i7 (hg pins s1 σ H1 x v _ I1 r1 q1) fun _ s2 q=>q
theorem gs{i:Nat}{x:Str}{e:Expr}{te:TE}{pos':Pos}(hN:X.N.Nodup)(hi:X.N[i]?=some x)(hx:Loc X.env.scope x)(he:PE X e te)(hs:swapsWith e (some (.Name x pos')) pos.line X.env=pure false:=by rfl)(hf:X.fn x=true∨X.env.scope.names.lookup x=some .local:=by first|exact .inl rfl|exact .inr rfl|assumption) :
   PS X (.Assign [.Name x pos'] e pos) (Km te (Fn i)):=by
 intro pins s σ H D I h
 refine wpAny_Assign_Name (i7 (he pins s σ H _ I h) fun v s1 ⟨y,H1,I1,r1,q1⟩=>?_) hs
 exact CK I1 hN hi hx r1 (fun s2 I2=>⟨_,H1,I2,q1⟩) hf
def Ei(c:TT)(tb:TS):TS:=fun D σ H=>∃W:Nat→St→Hp→Prop,(∃m,W m σ H)∧∀m σ H,W m σ H→
 c σ H fun b H1=>if b=true then ∃N:St→Hp→Prop,(∀σ' H',N σ' H'→∃m',m'<m∧W m' σ' H')∧tb {D with nx:=N,ct:=N,bk:=D.nx} σ H1 else D.nx σ H1
theorem yi{c:Expr}{body:List Stmt}{tc:TT}{tb:TS}(hp:PassesOwn (model X.prog X.w) X.A X.env X.xe)(hc:PT X c tc)(hb:Ed X body tb):PS X (.While c body [] pos) (Ei tc tb):=by
 intro pins s σ H D I h
 obtain⟨W,⟨m0,w0⟩,turn⟩:=h
 refine wpAny_While (codeAny_whileLoop (fun n s'=>∃σ' H',Inv X pins σ' H' s'∧W n σ' H') ?_ m0 ⟨σ,H,I,w0⟩)
 rintro n s1 ⟨σ1,H1,I1,w1⟩
 refine wpAny_passesOwn hp (i7 (hc pins s1 σ1 H1 _ I1 (turn n σ1 H1 w1)) fun b s2 ⟨H2,I2,q2⟩=>?_)
 cases b with
 | true=>
   obtain⟨N,hN,q2⟩:=q2
   rw[aar rfl]
   refine wpAny_passesOwn hp (i7 (hb pins s2 σ1 H2 _ I2 q2) fun f s3 q3=>?_)
   cases f with
   | next=>
     obtain⟨σ3,H3,I3,n3⟩:=q3
     obtain⟨m',hm,w3⟩:=hN σ3 H3 n3
     exact⟨m',hm,σ3,H3,I3,w3⟩
   | cont=>
     obtain⟨σ3,H3,I3,n3⟩:=q3
     obtain⟨m',hm,w3⟩:=hN σ3 H3 n3
     exact⟨m',hm,σ3,H3,I3,w3⟩
   | brk=>exact q3
   | ret v=>exact q3
 | false=>
   rw[aak aad]
   exact wpAny_execs_nil ⟨σ1,H2,I2,q2⟩
end
structure It where
 go:Nat→Hp→Prop
 HI:Nat→Hp→V→Hp→Prop
 stop:Nat→Hp→Prop
def s_(X:Cx)(pins:List (Addr×Obj))(H:Hp)(b:Addr):Prop:=
 H b=none∧b≠X.env.locals∧b∉X.fs∧(b∈X.ex∨X.s₀.heap.objs.size≤b)∧(∀x c,X.env.cells.lookup x=some c→c≠b)∧∀p∈X.pn++pins,p.1≠b
theorem Inv.yj{X:Cx}{pins:List (Addr×Obj)}{σ:St}{H H':Hp}{s:Shared}{b:Addr}(I:Inv X pins σ H s)(hb:s.heap.objs.size≤b)(hn:H' b=none):s_ X pins H' b:=by
 refine⟨hn,Nat.ne_of_gt (aax I.lt hb),I.Py hb,.inr (aab I.sz hb),fun x c e z=>?_,fun p hp z=>?_⟩
 · obtain⟨v,q⟩:=I.cell x c e
   exact absurd (aax q.lt (by rw[z];exact hb)) (aa_ _)
 · exact absurd (aax (Heap.lt_size (I.pin p hp).1) (by rw[z];exact hb)) (aa_ _)
structure Turn(P:Program)(w:World)(K:PySem.W.Frag)(tg:Expr)(J:It)(fp:List Addr)(it:Addr)(tn:Nat→Heap→Prop):Prop where
 mem:it∈fp
 obj:∀i h,tn i h→∀b∈fp,∃o,h.get? b=some o∧∀v,o.data≠.cell v
 keep:∀i h h',tn i h→(∀b∈fp,∀o,h.get? b=some o→h'.get? b=some o)→tn i h'
 item:∀(X:Cx),X.prog=P→X.w=w→X.K=K→X.calm=true→∀(i:Nat)(pins:List (Addr×Obj))(s:Shared)(σ:St)(H:Hp)(E:Value→Shared→Prop),Inv X pins σ H s→(∀b∈fp,s_ X pins H b)→tn i s.heap→J.go i H→
   wpAny (model P w) X.A (pyNext (.ref it)) (fun r s1=>∃u,r=some u∧
     wpAny (model P w) X.A (letOwnedTupleGo tg (.ref it) u) (fun _ s2=>∃x H',Inv X pins σ H' s2∧RelV x u∧J.HI i H x H'∧tn (i+1) s2.heap∧∀b∈fp,H' b=none) E s1) E s
 done:∀(X:Cx),X.prog=P→X.w=w→X.K=K→X.calm=true→∀(i:Nat)(pins:List (Addr×Obj))(s:Shared)(σ:St)(H:Hp)(E:Value→Shared→Prop),Inv X pins σ H s→(∀b∈fp,s_ X pins H b)→tn i s.heap→J.stop i H→
   wpAny (model P w) X.A (pyNext (.ref it)) (fun r s1=>r=none∧Inv X pins σ H s1) E s
 self:∀(A:Around)(i:Nat)(s:Shared)(Q:Value→Shared→Prop)(E:Value→Shared→Prop),tn i s.heap→Q (.ref it) s→wpAny (model P w) A (pyIter (.ref it)) Q E s
abbrev TI:=St→Hp→(It→Hp→Prop)→Prop
def Uj(X:Cx)(pins:List (Addr×Obj))(σ:St)(tg:Expr)(R:It→Hp→Prop)(S5:Value)(s2:Shared):Prop:=
 ∃(it:Addr)(fp:List Addr)(tn:Nat→Heap→Prop)(J:It)(H':Hp),S5=.ref it∧Inv X pins σ H' s2∧Turn X.prog X.w X.K tg J fp it tn∧tn 0 s2.heap∧(∀b∈fp,s_ X pins H' b)∧R J H'
def PI(X:Cx)(tg iter:Expr)(wi:TI):Prop:=
 ∀(pins:List (Addr×Obj))(s:Shared)(σ:St)(H:Hp)(R:It→Hp→Prop),Inv X pins σ H s→wi σ H R→
   wpAny (model X.prog X.w) X.A (eval iter X.env) (fun v s1=>wpAny (model X.prog X.w) X.A (pyIter v) (Uj X pins σ tg R) X.xe s1) X.xe s
theorem yk{M:Model}{A:Around}{E:Value→Shared→Prop}{s:Shared}{tg:Expr}{it:Addr}{u:Value}{o:Obj}{n:String}{vs:Array Value}{Q:Unit→Shared→Prop}(ho:s.heap.get? it=some o)(hc:o.cls=.type n)(hd:o.data=.fields vs)
   (hn:["enumerate","zip","dict_itemiterator","dict_reverseitemiterator","odict_iterator","itertools.zip_longest","itertools.pairwise"].contains n=false) (hQ:Q () s):wpAny M A (letOwnedTupleGo tg (.ref it) u) Q E s:=by
 unfold letOwnedTupleGo
 cases tg<;>first
   | exact wpAny_pure hQ
   | (cases u<;>first
       | exact wpAny_pure hQ
       | (
          refine wpAny_bind (wpAny_load ho ?_)
          rw[hc,hd]
          show wpAny M A (if(["enumerate","zip","dict_itemiterator","dict_reverseitemiterator","odict_iterator","itertools.zip_longest","itertools.pairwise"].contains n&&vs[0]? ==some (rawInt _))=true then _ else _) Q E s
          rw[aak (by intro h;rw[hn,Bool.false_and] at h;cases h)]
          exact wpAny_pure hQ))
def OV(K:PySem.W.Frag)(a:Addr):It:=
 ⟨fun i H=>∃xs x,g_ K H a xs∧xs[i]?=some x,fun i H x H'=>H'=H∧∀xs,g_ K H a xs→xs[i]?=some x,fun i H=>∃xs,g_ K H a xs∧xs.length≤i⟩
def LR(lo:Int)(n:Nat):It:=⟨fun i _=>i<n,fun i H x H'=>H'=H∧x=.int (lo+i),fun i _=>n≤i⟩
theorem Gn{P:Program}{w:World}{K:PySem.W.Frag}{tg:Expr}(a it:Addr):Turn P w K tg (OV K a) [it] it (fun i h=>h.IsListIter it a i) where
 mem:=by simp
 obj:=fun i h st b hb=>by
   have e:b=it:=by simpa using hb
   subst e
   obtain⟨o,e,c,d⟩:=st
   exact⟨o,e,fun v z=>by rw[d] at z;cases z⟩
 keep:=fun i h h' st k=>st.at fun o e=>k it (by simp) o e
 item:=by
   intro X hP hw hK hc i pins s σ H E I hf st hg
   subst hP hw hK
   obtain⟨xs,x,hq,hx⟩:=hg
   obtain⟨ia,rv,p,hz⟩:=I.list hq
   obtain⟨u,hu,ru⟩:=rv.get hx
   obtain⟨f0,f1,f2,f3,f4,f5⟩:=hf it (by simp)
   refine wpAny_pyNext_list_item st p.isList (x:=u) (by simpa using hu) fun h' Ar sb=>?_
   have I1:Inv X pins σ H {s with heap:=h'}:=I.turned (t':=s.toks) (fun b o hb e=>(sb.2 b hb).trans e) f0 f1 f3 f4 f5
   obtain⟨o,e,c,d⟩:=id Ar
   exact⟨u,rfl,yk (s:={s with heap:=h'}) e c d (by decide) ⟨x,H,I1,ru,⟨rfl,fun ys hy=>by rw[I.o4 hy hq];exact hx⟩,Ar,fun b hb=>(hf b hb).1⟩⟩
 done:=by
   intro X hP hw hK hc i pins s σ H E I hf st hg
   subst hP hw hK
   obtain⟨xs,hq,hx⟩:=hg
   obtain⟨ia,rv,p,hz⟩:=I.list hq
   obtain⟨f0,f1,f2,f3,f4,f5⟩:=hf it (by simp)
   have hl:=rv.length
   exact wpAny_pyNext_list_end (I.ok.hd hc) st p.isList (by simp;omega) fun h' eb=>⟨rfl,I.turned (t':=s.toks) (fun b o hb e=>eb b o hb e) f0 f1 f3 f4 f5⟩
 self:=fun _ _ _ _ _ st h=>wpAny_pyIter_listiter st h
theorem Ej{P:Program}{w:World}{K:PySem.W.Frag}{tg:Expr}(it:Addr)(lo:Int)(n:Nat):Turn P w K tg (LR lo n) [it] it (fun i h=>IsRangeIter h it (lo+(i:Nat)*1) ((n:Int)-(i:Nat)) 1) where
 mem:=by simp
 obj:=fun i h st b hb=>by
   have e:b=it:=by simpa using hb
   subst e
   exact⟨_,st,fun v z=>by
     have z':Data.fields _=Data.cell v:=z
     cases z'⟩
 keep:=fun i h h' st k=>k it (by simp) _ st
 item:=by
   intro X hP hw hK hc i pins s σ H E I hf st hg
   subst hP hw hK
   obtain⟨f0,f1,f2,f3,f4,f5⟩:=hf it (by simp)
   have W:=Walks.range (prog:=X.prog) (w:=X.w) (I.ok.hd hc) it lo 1 n
   refine W.item i s _ _ hg st fun v h' tk hv Ar kk=>?_
   obtain⟨t,rfl⟩:=hv
   have I1:Inv X pins σ H {s with heap:=h',toks:=tk}:=I.turned (fun b o hb e=>kk b o (by simpa using hb) e) f0 f1 f3 f4 f5
   refine⟨_,rfl,yk (s:={s with heap:=h',toks:=tk}) (n:="range_iterator") Ar rfl rfl (by decide) ⟨.int (lo+i),H,I1,⟨t,?_⟩,⟨rfl,rfl⟩,Ar,fun b hb=>(hf b hb).1⟩⟩
   rw[Int.mul_one]
 done:=by
   intro X hP hw hK hc i pins s σ H E I hf st hg
   subst hP hw hK
   obtain⟨f0,f1,f2,f3,f4,f5⟩:=hf it (by simp)
   exact wpAny_pyNext_range_end (I.ok.hd hc) st (by have:n≤i:=hg;omega) fun h' eb=>⟨rfl,I.turned (t':=s.toks) (fun b o hb e=>eb b o hb e) f0 f1 f3 f4 f5⟩
 self:=fun _ _ _ _ _ st h=>wpAny_pyIter_rangeiter st h
section
variable{X:Cx}{tg:Expr}
def PQ(K:PySem.W.Frag)(tl:TE):TI:=fun σ H R=>tl σ H fun x H1=>∃a,x=.ref a∧(∃xs,g_ K H1 a xs)∧R (OV K a) H1
theorem iq{l:Expr}{tl:TE}(hl:PE X l tl):PI X tg l (PQ X.K tl):=by
 intro pins s σ H R I h
 refine i7 (hl pins s σ H _ I h) fun v s1 ⟨x,H1,I1,r1,q1⟩=>?_
 obtain⟨a,e,⟨xs,hq⟩,q⟩:=q1
 subst e
 cases r1
 obtain⟨ia,rv,p,hz⟩:=I1.list hq
 refine wpAny_pyIter_list p.isList ?_
 refine⟨s1.heap.objs.size,[s1.heap.objs.size],_,_,H1,rfl,I1.kept (t':=s1.toks) fun b o e=>Heap.get?_push_of_some _ e,Gn a _,⟨_,Heap.get?_push_size _ rfl,rfl,rfl⟩,fun b hb=>?_,q⟩
 have e:b=s1.heap.objs.size:=by simpa using hb
 subst e
 exact I1.yj (UU _) (I1.iK.fresh (UU _))
theorem CN{pins:List (Addr×Obj)}{σ:St}{H:Hp}{s:Shared}{R:It→Hp→Prop}{E:Value→Shared→Prop}{lo hi:Int}{t u v:Tok}{tk:Nat}(I:Inv X pins σ H s)(h1:-(2 ^ 62)≤lo)(h2:lo<2 ^ 62)(h3:-(2 ^ 62)≤hi)(h4:hi<2 ^ 62)
   (q:R (LR lo (hi-lo).toNat) H):wpAny (model X.prog X.w) X.A (pyIter (.ref s.heap.objs.size)) (Uj X pins σ tg R) E {s with heap:=s.heap.push {cls:=.type "range",data:=.fields #[.int lo t,.int hi u,.int 1 v]},toks:=tk}:=by
 refine wpAny_pyIter_range (IsRange.new ..) (small_one h1 h2 h3 h4) ?_
 have I1:Inv X pins σ H {s with heap:=s.heap.push {cls:=.type "range",data:=.fields #[.int lo t,.int hi u,.int 1 v]},toks:=tk}:=I.kept fun b o e=>Heap.get?_push_of_some _ e
 refine⟨(s.heap.push {cls:=.type "range",data:=.fields #[.int lo t,.int hi u,.int 1 v]}).objs.size,[(s.heap.push {cls:=.type "range",data:=.fields #[.int lo t,.int hi u,.int 1 v]}).objs.size],_,_,H,rfl,
   I1.kept (t':=tk) fun b o e=>Heap.get?_push_of_some _ e,Ej _ lo (hi-lo).toNat,?_,fun b hb=>?_,q⟩
 · have e1:lo+((0:Nat):Int)*1=lo:=by simp
   have e2:(((hi-lo).toNat:Nat):Int)-((0:Nat):Int)=Builtin.Range.rangeSize lo hi 1:=by rw[rangeSize_one];split<;>omega
   show IsRangeIter _ _ (lo+((0:Nat):Int)*1) ((((hi-lo).toNat:Nat):Int)-((0:Nat):Int)) 1
   rw[e1,e2]
   exact Heap.get?_push_size _ rfl
 · have e:b=(s.heap.push {cls:=.type "range",data:=.fields #[.int lo t,.int hi u,.int 1 v]}).objs.size:=by simpa using hb
   subst e
   exact I1.yj (UU _) (I1.iK.fresh (UU _))
def PR(ta:TA):TI:=fun σ H R=>ta σ H fun vs H1=>∃j:Int,vs=[.int j]∧-(2 ^ 62)≤j∧j<2 ^ 62∧R (LR 0 j.toNat) H1
def PU(ta:TA):TI:=fun σ H R=>ta σ H fun vs H1=>∃i j:Int,vs=[.int i,.int j]∧(-(2 ^ 62)≤i∧i<2 ^ 62∧-(2 ^ 62)≤j∧j<2 ^ 62)∧R (LR i (j-i).toNat) H1
theorem lb{a:Expr}{ta:TA}{p pos:Pos}(hg:Gl X "range")(hm:X.mg "range"=none)(ha:PA X [a] ta)(hs:starEach [a] X.env=[(false,eval a X.env)]:=by rfl):PI X tg (.Call (.Name "range" p) [a] [] pos) (PR ta):=by
 intro pins s σ H R I h
 refine Call_ (oO I hg hm boot_range (aaR (i7 (ha pos pins s σ H _ I h) fun us s1 ⟨vs,H1,I1,r1,q1⟩=>?_) hs rfl))
 obtain⟨j,e,q1,q2,q⟩:=q1
 subst e
 cases r1 with
 | cons r rr=>
   cases rr
   obtain⟨t,rfl⟩:=r
   exact call_range_1 (CN I1 (by omega) (by omega) q1 q2 (by simpa using q))
theorem AA{a b:Expr}{ta:TA}{p pos:Pos}(hg:Gl X "range")(hm:X.mg "range"=none)(ha:PA X [a,b] ta)(hs:starEach [a,b] X.env=[(false,eval a X.env),(false,eval b X.env)]:=by rfl)(Hx:starEach [b] X.env=[(false,eval b X.env)]:=by rfl) :
   PI X tg (.Call (.Name "range" p) [a,b] [] pos) (PU ta):=by
 intro pins s σ H R I h
 refine Call_ (oO I hg hm boot_range (aaR (i7 (ha pos pins s σ H _ I h) fun us s1 ⟨vs,H1,I1,r1,q1⟩=>?_) (by rw[hs,Hx]) (by rw[Hx];rfl)))
 obtain⟨i,j,e,⟨q1,q2,q3,q4⟩,q⟩:=q1
 subst e
 cases r1 with
 | cons r rr=>
   cases rr with
   | cons r' rr=>
     cases rr
     obtain⟨t,rfl⟩:=r
     obtain⟨t',rfl⟩:=r'
     exact call_range_2 (CN I1 q1 q2 q3 q4 q)
def HJ(wi:TI)(g:TG)(tb:TS):TS:=fun D σ H=>wi σ H fun J H1=>∃W:Nat→Nat→St→Hp→Prop,(∃m,W 0 m σ H1)∧∀i m σ H,W i m σ H→
 (J.stop i H∧D.nx σ H)∨(J.go i H∧∃N:St→Hp→Prop,(∀σ' H',N σ' H'→∃m',m'<m∧W (i+1) m' σ' H')∧∀x H',J.HI i H x H'→g x σ H' fun σ2 H2=>tb {D with nx:=N,ct:=N,bk:=D.nx} σ2 H2)
def yl(fp:List Addr)(h:Heap):List (Addr×Obj):=fp.filterMap fun b=>(h.get? b).map fun o=>(b,o)
theorem pS{fp:List Addr}{h:Heap}{b:Addr}{o:Obj}(hb:b∈fp)(e:h.get? b=some o):(b,o)∈yl fp h:=abI.mpr ⟨b,hb,by rw[e];rfl⟩
theorem Gp{fp:List Addr}{h:Heap}{p:Addr×Obj}(hp:p∈yl fp h):p.1∈fp∧h.get? p.1=some p.2:=by
 obtain⟨b,hb,e⟩:=abI.mp hp
 cases q:h.get? b with
 | none=>rw[q] at e;cases e
 | some o=>
   rw[q] at e
   have e':(b,o)=p:=aau e
   subst e'
   exact⟨hb,q⟩
theorem Inv.pinned{pins:List (Addr×Obj)}{σ:St}{H:Hp}{s:Shared}{fp:List Addr}(I:Inv X pins σ H s)(hf:∀b∈fp,s_ X pins H b)(ho:∀b∈fp,∃o,s.heap.get? b=some o∧∀v,o.data≠.cell v):Inv X (pins++yl fp s.heap) σ H s:=
 I.xZ fun p hp=>(XW.mp hp).elim (fun z=>I.pin p (aaD _ z)) fun z=>by
   obtain⟨hb,e⟩:=Gp z
   obtain⟨f0,f1,f2,_⟩:=hf p.1 hb
   obtain⟨o,e',d⟩:=ho p.1 hb
   rw[e] at e';cases e'
   exact⟨e,f0,f1,f2,d⟩
theorem Inv.ua{pins pl:List (Addr×Obj)}{σ:St}{H:Hp}{s:Shared}(I:Inv X (pins++pl) σ H s):Inv X pins σ H s:=I.xZ fun p hp=>I.pin p (aaD _ (aap _ hp))
theorem iL{iter:Expr}{body:List Stmt}{wi:TI}{g:TG}{tb:TS}{pos:Pos}(hp:PassesOwn (model X.prog X.w) X.A X.env X.xe)(hc:X.calm=true)(hi:PI X tg iter wi)(hg:PG X tg g)(hb:Ed X body tb)
   (hs:∀x,foldedSetIterable iter X.env x=pure x:=by intro _;rfl):PS X (.For tg iter body [] pos) (HJ wi g tb):=by
 intro pins s σ H D I h
 refine wpAny_For (i7 (hi pins s σ H _ I h) fun v s1 h1=>i7 h1 fun S5 s2 h2=>?_) hs
 obtain⟨it,fp,tn,J,H2,e,I2,T,As,f2,W,⟨m0,w0⟩,turn⟩:=h2
 subst e
 have N8:∀{H':Hp},(∀b∈fp,H' b=none)→∀b∈fp,s_ X pins H' b:=fun hn b hb=>⟨hn b hb,(f2 b hb).2⟩
 refine codeAny_forLoop_any (fun n s'=>∃i σ' H',Inv X pins σ' H' s'∧tn i s'.heap∧(∀b∈fp,H' b=none)∧W i n σ' H') ?_ m0 ⟨0,σ,H2,I2,As,fun b hb=>(f2 b hb).1,w0⟩
 rintro n s3 ⟨i,σ3,H3,I3,sy,QP,w3⟩
 rcases turn i n σ3 H3 w3 with⟨stop,qn⟩|⟨go,N,hN,step⟩
 · refine wpAny_passesOwn hp (i7 (T.done X rfl rfl rfl hc i pins s3 σ3 H3 X.xe I3 (N8 QP) sy stop) fun r s4 ⟨hr,I4⟩=>?_)
   subst hr
   exact wpAny_execs_nil ⟨σ3,H3,I4,qn⟩
 · refine wpAny_passesOwn hp (i7 (T.item X rfl rfl rfl hc i pins s3 σ3 H3 X.xe I3 (N8 QP) sy go) fun r s4 ⟨u,hr,h4⟩=>?_)
   subst hr
   refine wpAny_passesOwn hp (i7 h4 fun _ s5 ⟨x,H5,I5,r5,y5,N9,Vb⟩=>?_)
   have Vc:=I5.pinned (N8 Vb) (T.obj _ _ N9)
   refine wpAny_passesOwn hp (i7 (hg _ s5 σ3 H5 x u _ Vc r5 (step x H5 y5)) fun _ s6 ⟨σ6,H6,I6,q6⟩=>?_)
   refine wpAny_passesOwn hp (i7 (hb _ s6 σ6 H6 _ I6 q6) fun f s7 q7=>?_)
   have again:∀{σ7:St} {H7:Hp},Inv X (pins++yl fp s5.heap) σ7 H7 s7→N σ7 H7→∃m,m<n∧∃i σ' H',Inv X pins σ' H' s7∧tn i s7.heap∧(∀b∈fp,H' b=none)∧W i m σ' H':=fun{σ7 H7} I7 n7=>by
     obtain⟨m',hm,w7⟩:=hN σ7 H7 n7
     refine⟨m',hm,i+1,σ7,H7,I7.ua,T.keep _ _ _ N9 fun b hb o e=>(I7.pin (b,o) (aaD _ (aaD _ (pS hb e)))).1,fun b hb=>?_,w7⟩
     obtain⟨o,e,d⟩:=T.obj _ _ N9 b hb
     exact(I7.pin (b,o) (aaD _ (aaD _ (pS hb e)))).2.1
   cases f with
   | next=>obtain⟨σ7,H7,I7,n7⟩:=q7;exact again I7 n7
   | cont=>obtain⟨σ7,H7,I7,n7⟩:=q7;exact again I7 n7
   | brk=>obtain⟨σ7,H7,I7,q7⟩:=q7;exact⟨σ7,H7,I7.ua,q7⟩
   | ret v=>obtain⟨x7,σ7,H7,I7,r7,q7⟩:=q7;exact⟨x7,σ7,H7,I7.ua,r7,q7⟩
end
theorem i0{K:PySem.W.Frag}{a:Addr}{xs:List V}{g:TG}{tb:TS}{D:Ends}{σ:St}{H:Hp}(Pv:Nat→St→Hp→Prop)(h0:Pv 0 σ H)(hl:∀i σ H,i≤xs.length→Pv i σ H→g_ K H a xs)
   (hs:∀i x σ H,xs[i]?=some x→Pv i σ H→g x σ H fun σ2 H2=>tb {D with nx:=Pv (i+1),ct:=Pv (i+1),bk:=D.nx} σ2 H2) (hd:∀σ H,Pv xs.length σ H→D.nx σ H) :
   ∃W:Nat→Nat→St→Hp→Prop,(∃m,W 0 m σ H)∧∀i m σ H,W i m σ H→
     ((OV K a).stop i H∧D.nx σ H)∨((OV K a).go i H∧∃N:St→Hp→Prop,(∀σ' H',N σ' H'→∃m',m'<m∧W (i+1) m' σ' H')∧∀x H',(OV K a).HI i H x H'→g x σ H' fun σ2 H2=>tb {D with nx:=N,ct:=N,bk:=D.nx} σ2 H2):=by
 refine⟨fun i m σ H=>m=xs.length-i∧i≤xs.length∧Pv i σ H,⟨xs.length,by simp,aaE _,h0⟩,?_⟩
 rintro i m σ H ⟨rfl,hi,p⟩
 have q:=hl i σ H hi p
 by_cases lu:i<xs.length
 · refine .inr ⟨⟨xs,xs[i],q,by simp[lu]⟩,Pv (i+1),fun σ' H' p'=>⟨xs.length-(i+1),by omega,rfl,lu,p'⟩,fun x H' y=>?_⟩
   obtain⟨e,y⟩:=y
   subst e
   exact hs i x σ _ (y xs q) p
 · have e:i=xs.length:=by omega
   subst e
   exact .inl ⟨⟨xs,q,UU _⟩,hd σ H p⟩
theorem nv{lo:Int}{n:Nat}{g:TG}{tb:TS}{D:Ends}{σ:St}{H:Hp}(Pv:Nat→St→Hp→Prop)(h0:Pv 0 σ H)
   (hs:∀i σ H,i<n→Pv i σ H→g (.int (lo+i)) σ H fun σ2 H2=>tb {D with nx:=Pv (i+1),ct:=Pv (i+1),bk:=D.nx} σ2 H2) (hd:∀σ H,Pv n σ H→D.nx σ H) :
   ∃W:Nat→Nat→St→Hp→Prop,(∃m,W 0 m σ H)∧∀i m σ H,W i m σ H→
     ((LR lo n).stop i H∧D.nx σ H)∨((LR lo n).go i H∧∃N:St→Hp→Prop,(∀σ' H',N σ' H'→∃m',m'<m∧W (i+1) m' σ' H')∧∀x H',(LR lo n).HI i H x H'→g x σ H' fun σ2 H2=>tb {D with nx:=N,ct:=N,bk:=D.nx} σ2 H2):=by
 refine⟨fun i m σ H=>m=n-i∧i≤n∧Pv i σ H,⟨n,by simp,aaE _,h0⟩,?_⟩
 rintro i m σ H ⟨rfl,hi,p⟩
 by_cases lu:i<n
 · refine .inr ⟨lu,Pv (i+1),fun σ' H' p'=>⟨n-(i+1),by omega,rfl,lu,p'⟩,fun x H' y=>?_⟩
   obtain⟨e,y⟩:=y
   subst e y
   exact hs i σ _ lu p
 · have e:i=n:=by omega
   subst e
   exact .inl ⟨UU _,hd σ H p⟩
abbrev R2:=V→V→Hp→VK→Prop
def wu(X:Cx)(f:Value→Value→Sem Value)(r:R2):Prop:=
 ∀(pins:List (Addr×Obj))(s:Shared)(σ:St)(H:Hp)(x y:V)(v u:Value)(Q:VK),Inv X pins σ H s→RelV x v→RelV y u→r x y H Q→
   wpAny (model X.prog X.w) X.A (f v u) (EP X pins σ Q) X.xe s
def Uk(X:Cx)(f:Value→Sem Value)(r:V→Hp→VK→Prop):Prop:=
 ∀(pins:List (Addr×Obj))(s:Shared)(σ:St)(H:Hp)(x:V)(v:Value)(Q:VK),Inv X pins σ H s→RelV x v→r x H Q→
   wpAny (model X.prog X.w) X.A (f v) (EP X pins σ Q) X.xe s
def ub(X:Cx)(f:Value)(r:List V→Hp→VK→Prop):Prop:=
 ∀(pins:List (Addr×Obj))(s:Shared)(σ:St)(H:Hp)(xs:List V)(us:List Value)(Q:VK),Inv X pins σ H s→Vals xs us→r xs H Q→
   wpAny (model X.prog X.w) X.A (call f us) (EP X pins σ Q) X.xe s
def Ul(X:Cx)(r:V→Hp→(Bool→Hp→Prop)→Prop):Prop:=
 ∀(pins:List (Addr×Obj))(s:Shared)(σ:St)(H:Hp)(x:V)(v:Value)(Q:Bool→Hp→Prop),Inv X pins σ H s→RelV x v→r x H Q→
   wpAny (model X.prog X.w) X.A (truthy v) (TP X pins σ Q) X.xe s
def SN(r:R2)(ta tb:TE):TE:=fun σ H Q=>ta σ H fun x H1=>tb σ H1 fun y H2=>r x y H2 Q
def tUn(r:V→Hp→VK→Prop)(ta:TE):TE:=fun σ H Q=>ta σ H fun x H1=>r x H1 Q
def rI(C:Int→Int→Prop)(g:Int→Int→V):R2:=fun x y H Q=>∃i j,x=.int i∧y=.int j∧C i j∧Q (g i j) H
def LS(g:Int→Int→V):R2:=fun x y H Q=>∃i j,x=.int i∧y=.int j∧Q (g i j) H
def rU(g:Int→V):V→Hp→VK→Prop:=fun x H Q=>∃i,x=.int i∧Q (g i) H
section
variable{X:Cx}{a b c:Expr}{ta tb tc:TE}{pos:Pos}
theorem ML(ha:PE X a ta)(hb:PE X b tb){pins:List (Addr×Obj)}{s:Shared}{σ:St}{H:Hp}{R:V→V→Hp→Prop}(I:Inv X pins σ H s)
   (h:ta σ H fun x H1=>tb σ H1 fun y H2=>R x y H2) {Q:Value→Shared→Prop} {f:Value→Value→Sem Value}
   (hf:∀v u s2 x y H2,Inv X pins σ H2 s2→RelV x v→RelV y u→R x y H2→wpAny (model X.prog X.w) X.A (f v u) Q X.xe s2) :
   wpAny (model X.prog X.w) X.A (eval a X.env) (fun v s₁=>wpAny (model X.prog X.w) X.A (eval b X.env) (fun u s₂=>wpAny (model X.prog X.w) X.A (f v u) Q X.xe s₂) X.xe s₁) X.xe s:=by
 refine i7 (ha pins s σ H _ I h) fun v s1 ⟨x,H1,I1,r1,q1⟩=>?_
 refine i7 (hb pins s1 σ H1 _ I1 q1) fun u s2 ⟨y,H2,I2,r2,q2⟩=>?_
 exact hf v u s2 x y H2 I2 r1 r2 q2
theorem gn{op:Operator}{r:R2}(ho:wu X (binaryOp op) r)(ha:PE X a ta)(hb:PE X b tb):PE X (.BinOp a op b pos) (SN r ta tb):=by
 intro pins s σ H Q I h
 exact wpAny_BinOp (ML ha hb I h fun v u s2 x y H2 I2 rx ry q=>ho pins s2 σ H2 x y v u Q I2 rx ry q)
theorem qP{op:UnaryOp}{r:V→Hp→VK→Prop}(ho:Uk X (unaryOp op) r)(ha:PE X a ta):PE X (.UnaryOp op a pos) (tUn r ta):=by
 intro pins s σ H Q I h
 exact UnaryOp_ (i7 (ha pins s σ H _ I h) fun v s1 ⟨x,H1,I1,r1,q1⟩=>ho pins s1 σ H1 x v Q I1 r1 q1)
theorem Um{f:Value→Value→Sem Value}{C:Int→Int→Prop}{g:Int→Int→Int}
   (rule:∀(i j:Int)(t u:Tok)(s:Shared)(Q:Value→Shared→Prop)(E:Value→Shared→Prop),C i j→Q (.int (g i j) s.toks) {s with toks:=s.toks+1}→wpAny (model X.prog X.w) X.A (f (.int i t) (.int j u)) Q E s) :
   wu X f (rI C fun i j=>.int (g i j)):=by
 intro pins s σ H x y v u Q I rx ry h
 obtain⟨i,j,rfl,rfl,hc,q⟩:=h
 obtain⟨t,rfl⟩:=rx
 obtain⟨t',rfl⟩:=ry
 exact rule i j t t' s _ _ hc ⟨.int (g i j),H,I.tok _,⟨_,rfl⟩,q⟩
theorem PV{f:Value→Value→Sem Value}{g:Int→Int→Int}
   (rule:∀(i j:Int)(t u:Tok)(s:Shared)(Q:Value→Shared→Prop)(E:Value→Shared→Prop),Q (.int (g i j) s.toks) {s with toks:=s.toks+1}→wpAny (model X.prog X.w) X.A (f (.int i t) (.int j u)) Q E s) :
   wu X f (LS fun i j=>.int (g i j)):=by
 intro pins s σ H x y v u Q I rx ry h
 obtain⟨i,j,rfl,rfl,q⟩:=h
 obtain⟨t,rfl⟩:=rx
 obtain⟨t',rfl⟩:=ry
 exact rule i j t t' s _ _ ⟨.int (g i j),H,I.tok _,⟨_,rfl⟩,q⟩
theorem Kn{f:Value→Value→Sem Value}{g:Int→Int→Bool}
   (rule:∀(i j:Int)(t u:Tok)(s:Shared)(Q:Value→Shared→Prop)(E:Value→Shared→Prop),Q (.bool (g i j)) s→wpAny (model X.prog X.w) X.A (f (.int i t) (.int j u)) Q E s) :
   wu X f (LS fun i j=>.bl (g i j)):=by
 intro pins s σ H x y v u Q I rx ry h
 obtain⟨i,j,rfl,rfl,q⟩:=h
 obtain⟨t,rfl⟩:=rx
 obtain⟨t',rfl⟩:=ry
 exact rule i j t t' s _ _ ⟨.bl (g i j),H,I,rfl,q⟩
def Uo(i j:Int):Prop:=0<j∧j<1073741824
def MM(i j:Int):Prop:=(-(2 ^ 64)<i∧i<2 ^ 64)∨(-(2 ^ 64)<j∧j<2 ^ 64)
theorem MM.ok{i j:Int}(h:MM i j):IntMulOk i j:=by
 rcases h with⟨h1,h2⟩|⟨h1,h2⟩
 · exact .of_left (intBits_le_64 h1 h2)
 · exact .of_right (intBits_le_64 h1 h2)
theorem iP:wu X (binaryOp .Add) (LS fun i j=>.int (i+j)):=PV fun _ _ _ _ _ _ _ q=>add_int q
theorem ym:wu X (binaryOp .Sub) (LS fun i j=>.int (i-j)):=PV fun _ _ _ _ _ _ _ q=>sub_int q
theorem qQ:wu X (binaryOp .Mult) (rI MM fun i j=>.int (i*j)):=Um fun _ _ _ _ _ _ _ hc q=>mul_int q hc.ok
theorem j0:wu X (binaryOp .FloorDiv) (rI Uo fun i j=>.int (i/j)):=Um fun i j _ _ _ _ _ hc q=>by
 have h1:(0:Int)<j:=hc.1
 have h2:j<1073741824:=hc.2
 exact floordiv_int (by omega) (by rw[Int.fdiv_eq_ediv_of_nonneg i (by omega)];exact q) (.inl (PyProof.noPylong_small (by omega)))
theorem iU:wu X (binaryOp .Mod) (rI (fun _ j=>0<j) fun i j=>.int (i%j)):=Um fun i j _ _ _ _ _ hc q=>by
 have h1:(0:Int)<j:=hc
 exact mod_int' (by omega) (by rw[Int.fmod_eq_emod_of_nonneg i (by omega)];exact q)
theorem unI{f:Value→Sem Value}{g:Int→Int}
   (rule:∀(i:Int)(t:Tok)(s:Shared)(Q:Value→Shared→Prop)(E:Value→Shared→Prop),Q (.int (g i) s.toks) {s with toks:=s.toks+1}→wpAny (model X.prog X.w) X.A (f (.int i t)) Q E s) :
   Uk X f (rU fun i=>.int (g i)):=by
 intro pins s σ H x v Q I rx h
 obtain⟨i,rfl,q⟩:=h
 obtain⟨t,rfl⟩:=rx
 exact rule i t s _ _ ⟨.int (g i),H,I.tok _,⟨_,rfl⟩,q⟩
theorem nE:Uk X (unaryOp .USub) (rU fun i=>.int (-i)):=unI fun _ _ _ _ _ q=>neg_int q
end
def MN:V→V→Bool
 | .jx,.jx=>true|.jx,.int _=>true|.int _,.jx=>true|.jx,.bl _=>true|.bl _,.jx=>true|.jx,.str _=>true|.str _,.jx=>true
 | .int _,.int _=>true|.bl _,.bl _=>true|.str _,.str _=>true|.Eg _,.Eg _=>true
 | .int _,.str _=>true|.str _,.int _=>true|.bl _,.str _=>true|.str _,.bl _=>true
 | _,_=>false
def rEq:R2:=fun x y H Q=>MN x y=true∧Q (.bl (decide (x=y))) H
def rNe:R2:=fun x y H Q=>MN x y=true∧Q (.bl (!decide (x=y))) H
theorem Fp{i j:Int}:decide (V.int i=V.int j)=(i ==j):=by
 rw[abg]
 simp
theorem HK{i j:Bool}:decide (V.bl i=V.bl j)=(i ==j):=by
 rw[abg]
 simp
theorem Fq{i j:Str}:decide (V.str i=V.str j)=(i ==j):=by
 rw[abg]
 simp
theorem Fs{i j:Array UInt8}:decide (V.Eg i=V.Eg j)=(i.toList ==j.toList):=by
 rw[abg]
 cases i
 cases j
 simp
section
variable{X:Cx}{a b c:Expr}{ta tb tc:TE}{pos:Pos}
theorem iV{pins:List (Addr×Obj)}{σ:St}{H:Hp}{s:Shared}{Q:VK}{k k':Bool}(I:Inv X pins σ H s)(q:Q (.bl k) H)(e:k=k'):EP X pins σ Q (.bool k') s:=by
 subst e
 exact⟨.bl k,H,I,rfl,q⟩
theorem me:wu X (compareOp .Eq) rEq:=by
 intro pins s σ H x y v u Q I rx ry h
 obtain⟨hs,q⟩:=h
 cases x with
 | jx=>
   cases rx
   cases y with
   | jx=>cases ry;exact PySem.EqNone.eq_none_none (iV I q (by simp))
   | bl j=>cases ry;exact PySem.EqNone.eq_none_bool (iV I q (by simp))
   | int j=>obtain⟨t',rfl⟩:=ry;exact PySem.EqNone.eq_none_int (iV I q (by simp))
   | str j=>obtain⟨t',rfl⟩:=ry;exact PySem.EqNone.eq_none_str (iV I q (by simp))
   | _=>exact absurd (show false=true from hs) aad
 | bl i=>
   cases rx
   cases y with
   | jx=>cases ry;exact PySem.EqNone.eq_bool_none (iV I q (by simp))
   | bl j=>cases ry;exact eq_bool (iV I q HK)
   | str j=>obtain⟨t',rfl⟩:=ry;exact PySem.EqMixed.eq_bool_str (iV I q (by simp))
   | _=>exact absurd (show false=true from hs) aad
 | int i=>
   obtain⟨t,rfl⟩:=rx
   cases y with
   | jx=>cases ry;exact PySem.EqNone.eq_int_none (iV I q (by simp))
   | int j=>obtain⟨t',rfl⟩:=ry;exact eq_int (iV I q Fp)
   | str j=>obtain⟨t',rfl⟩:=ry;exact PySem.EqMixed.eq_int_str (iV I q (by simp))
   | _=>exact absurd (show false=true from hs) aad
 | str i=>
   obtain⟨t,rfl⟩:=rx
   cases y with
   | jx=>cases ry;exact PySem.EqNone.eq_str_none (iV I q (by simp))
   | bl j=>cases ry;exact PySem.EqMixed.eq_str_bool (iV I q (by simp))
   | int j=>obtain⟨t',rfl⟩:=ry;exact PySem.EqMixed.eq_str_int (iV I q (by simp))
   | str j=>obtain⟨t',rfl⟩:=ry;exact eq_str (iV I q Fq)
   | _=>exact absurd (show false=true from hs) aad
 | Eg i=>
   obtain⟨t,rfl⟩:=rx
   cases y with
   | Eg j=>obtain⟨t',rfl⟩:=ry;exact PySem.W.eq_bytes (iV I q Fs)
   | _=>exact absurd (show false=true from hs) aad
 | _=>cases y<;>exact absurd (show false=true from hs) aad
theorem Ft:wu X (compareOp .NotEq) rNe:=by
 intro pins s σ H x y v u Q I rx ry h
 obtain⟨hs,q⟩:=h
 cases x with
 | jx=>
   cases rx
   cases y with
   | jx=>cases ry;exact PySem.EqNone.ne_none_none (iV I q (by simp))
   | bl j=>cases ry;exact PySem.EqNone.ne_none_bool (iV I q (by simp))
   | int j=>obtain⟨t',rfl⟩:=ry;exact PySem.EqNone.ne_none_int (iV I q (by simp))
   | str j=>obtain⟨t',rfl⟩:=ry;exact PySem.EqNone.ne_none_str (iV I q (by simp))
   | _=>exact absurd (show false=true from hs) aad
 | bl i=>
   cases rx
   cases y with
   | jx=>cases ry;exact PySem.EqNone.ne_bool_none (iV I q (by simp))
   | bl j=>cases ry;exact ne_bool (iV I q (aaW not HK))
   | str j=>obtain⟨t',rfl⟩:=ry;exact PySem.EqMixed.ne_bool_str (iV I q (by simp))
   | _=>exact absurd (show false=true from hs) aad
 | int i=>
   obtain⟨t,rfl⟩:=rx
   cases y with
   | jx=>cases ry;exact PySem.EqNone.ne_int_none (iV I q (by simp))
   | int j=>obtain⟨t',rfl⟩:=ry;exact ne_int (iV I q (aaW not Fp))
   | str j=>obtain⟨t',rfl⟩:=ry;exact PySem.EqMixed.ne_int_str (iV I q (by simp))
   | _=>exact absurd (show false=true from hs) aad
 | str i=>
   obtain⟨t,rfl⟩:=rx
   cases y with
   | jx=>cases ry;exact PySem.EqNone.ne_str_none (iV I q (by simp))
   | bl j=>cases ry;exact PySem.EqMixed.ne_str_bool (iV I q (by simp))
   | int j=>obtain⟨t',rfl⟩:=ry;exact PySem.EqMixed.ne_str_int (iV I q (by simp))
   | str j=>obtain⟨t',rfl⟩:=ry;exact ne_str (iV I q (aaW not Fq))
   | _=>exact absurd (show false=true from hs) aad
 | Eg i=>
   obtain⟨t,rfl⟩:=rx
   cases y with
   | Eg j=>obtain⟨t',rfl⟩:=ry;exact PySem.W.ne_bytes (iV I q (aaW not Fs))
   | _=>exact absurd (show false=true from hs) aad
 | _=>cases y<;>exact absurd (show false=true from hs) aad
theorem Fu:wu X (compareOp .Lt) (LS fun i j=>.bl (decide (i<j))):=Kn fun _ _ _ _ _ _ _ q=>lt_int q
theorem HL:wu X (compareOp .LtE) (LS fun i j=>.bl (decide (i≤j))):=Kn fun _ _ _ _ _ _ _ q=>le_int q
theorem yn:wu X (compareOp .Gt) (LS fun i j=>.bl (decide (j<i))):=Kn fun _ _ _ _ _ _ _ q=>gt_int q
theorem PX:wu X (compareOp .GtE) (LS fun i j=>.bl (decide (j≤i))):=Kn fun _ _ _ _ _ _ _ q=>ge_int q
theorem Bl:wu X (compareOp .NotIn) (fun x y H Q=>∃i j,x=.str i∧y=.str j∧Q (.bl (!(!(Builtin.Str.occurrences j i 0 j.length 1).isEmpty))) H):=by
 intro pins s σ H x y v u Q I rx ry h
 obtain⟨i,j,rfl,rfl,q⟩:=h
 obtain⟨t,rfl⟩:=rx
 obtain⟨t',rfl⟩:=ry
 exact notIn_str (iV I q rfl)
theorem iD(b:Expr){op:CmpOp}(h:op≠.In:=by decide)(h2:op≠.NotIn:=by decide):behindInMarks op b=false:=by
 have e1:(op ==CmpOp.In)=false:=by cases op<;>first|rfl|exact absurd rfl h
 have e2:(op ==CmpOp.NotIn)=false:=by cases op<;>first|rfl|exact absurd rfl h2
 cases b<;>simp[behindInMarks,e1,e2]
theorem Fv{op:CmpOp}{r:R2}(ho:wu X (compareOp op) r)(ha:PE X a ta)(hb:PE X b tb)(hm:behindInMarks op b=false):PE X (.Compare a [op] [b] pos) (SN r ta tb):=by
 intro pins s σ H Q I h
 exact wpAny_Compare1 (ML ha hb I h fun v u s2 x y H2 I2 rx ry q=>ho pins s2 σ H2 x y v u Q I2 rx ry q) hm
def LU(t:TE):TT:=fun σ H Q=>t σ H fun x H'=>∃k,x=.bl k∧Q k H'
theorem ij{op:CmpOp}{r:R2}(ho:wu X (compareOp op) r)(ha:PE X a ta)(hb:PE X b tb)(hm:behindInMarks op b=false):PT X (.Compare a [op] [b] pos) (LU (SN r ta tb)):=by
 intro pins s σ H Q I h
 refine wpAny_isTrue_Compare1 (i7 (ha pins s σ H _ I h) fun v s1 ⟨x,H1,I1,r1,q1⟩=>i7 (hb pins s1 σ H1 _ I1 q1) fun u s2 ⟨y,H2,I2,r2,q2⟩=>
   i7 (ho pins s2 σ H2 x y v u _ I2 r1 r2 q2) fun c s3 ⟨z,H3,I3,r3,k,e,q3⟩=>?_) hm
 subst e
 cases r3
 exact wpAny_truthy_bool ⟨H3,I3,q3⟩
def MO(r r':R2)(ta tb tc:TE):TE:=fun σ H Q=>ta σ H fun x H1=>tb σ H1 fun y H2=>r x y H2 fun z H3=>∃k,z=.bl k∧
 (if k=true then tc σ H3 fun w' H4=>r' y w' H4 Q else Q (.bl false) H3)
theorem CO{op Vd:CmpOp}{r r':R2}(ho:wu X (compareOp op) r)(n_:wu X (compareOp Vd) r')(ha:PE X a ta)(hb:PE X b tb)(hc:PE X c tc)
   (hm:lastMarks [op,Vd] [b,c]=false:=by with_unfolding_all rfl):PT X (.Compare a [op,Vd] [b,c] pos) (LU (MO r r' ta tb tc)):=by
 intro pins s σ H Q I h
 refine isTrue_chain (i7 (ha pins s σ H _ I h) fun v s1 ⟨x,H1,I1,r1,q1⟩=>test_link (i7 (hb pins s1 σ H1 _ I1 q1) fun u s2 ⟨y,H2,I2,r2,q2⟩=>
   i7 (ho pins s2 σ H2 x y v u _ I2 r1 r2 q2) fun d s3 ⟨z,H3,I3,r3,k,e,q3⟩=>?_)) hm
 subst e
 cases r3
 refine wpAny_truthy_bool ?_
 cases k with
 | false=>
   obtain⟨k',e',q'⟩:=q3
   cases e'
   exact ite_ff ⟨H3,I3,q'⟩
 | true=>
   refine ite_tt (test_last (i7 (hc pins s3 σ H3 _ I3 q3) fun w' s4 ⟨z',H4,I4,r4,q4⟩=>i7 (n_ pins s4 σ H4 y z' u w' _ I4 r2 r4 q4) fun d' s5 ⟨z2,H5,I5,r5,k2,e2,q5⟩=>?_))
   subst e2
   cases r5
   exact wpAny_truthy_bool ⟨H5,I5,q5⟩
def PY(K:PySem.W.Frag)(x:V)(H:Hp)(k:Bool):Prop:=
 match x with
 | .jx=>k=false
 | .bl b=>k=b
 | .int i=>k=(i != 0)
 | .str y=>y.length≤sizeLine∧k=((y.length:Int) != 0)
 | .Eg y=>y.size≤sizeLine∧k=((y.size:Int) != 0)
 | .ref p=>(∃xs,g_ K H p xs∧k=!xs.isEmpty)∨(∃xs,u_ K H p xs∧k=!xs.isEmpty)∨∃kvs,H p=some (.dK kvs)∧k=!kvs.isEmpty
 | _=>False
theorem Ek{κ:Type}{kvs:List (κ×V)}{vs:List (κ×Value)}(r:KV kvs vs):(!vs.isEmpty)=!kvs.isEmpty:=by
 cases r<;>rfl
theorem yo{xs:List V}{ia:List Value}(r:Vals xs ia):(!ia.toArray.isEmpty)=!xs.isEmpty:=by
 cases r<;>simp
theorem tf:(sizeLine:Nat)<2 ^ 63:=by rw[sizeLine_eq];decide
theorem MP:Ul X (fun x H Q=>∃k,PY X.K x H k∧Q k H):=by
 intro pins s σ H x v Q I rx h
 obtain⟨k,e,q⟩:=h
 have hl:=tf
 have hs:sizeLine=16777216:=sizeLine_eq
 cases x with
 | jx=>
   cases rx
   have e':k=false:=e
   subst e'
   exact truthy_none ⟨H,I,q⟩
 | bl b=>
   cases rx
   have e':k=b:=e
   subst e'
   exact wpAny_truthy_bool ⟨H,I,q⟩
 | int i=>
   obtain⟨t,rfl⟩:=rx
   have e':k=(i != 0):=e
   subst e'
   exact PySem.P.truthy_int ⟨H,I,q⟩
 | str y=>
   obtain⟨t,rfl⟩:=rx
   obtain⟨hy,e'⟩:y.length≤sizeLine∧k=((y.length:Int) != 0):=e
   subst e'
   exact PySem.P.truthy_str (by omega) ⟨H,I.tok _,q⟩
 | Eg y=>
   obtain⟨t,rfl⟩:=rx
   obtain⟨hy,e'⟩:y.size≤sizeLine∧k=((y.size:Int) != 0):=e
   subst e'
   exact PySem.W.truthy_bytes (by omega) ⟨H,I.tok _,q⟩
 | ref p=>
   cases rx
   have e':(∃xs,g_ X.K H p xs∧k=!xs.isEmpty)∨(∃xs,u_ X.K H p xs∧k=!xs.isEmpty)∨∃kvs,H p=some (.dK kvs)∧k=!kvs.isEmpty:=e
   rcases e' with⟨xs,hx,e'⟩|⟨xs,hx,e'⟩|⟨kvs,hx,e'⟩
   · subst e'
     obtain⟨ia,r,pl,hz⟩:=I.list hx
     have hlen:=r.length
     exact wpAny_truthy_list pl.isList (by simp only [aag];omega) ⟨H,I.tok _,by rw[yo r];exact q⟩
   · subst e'
     obtain⟨ia,r,pl,hz⟩:=I.tuple hx
     have hlen:=r.length
     exact truthy_tuple pl (by simp only [aag];omega) ⟨H,I.tok _,by rw[yo r];exact q⟩
   · subst e'
     obtain⟨hz,hS,vs,r,m⟩:kvs.length≤sizeLine∧(p ==sysModules)=false∧∃vs,KV kvs vs∧s.heap.DictOf (jd X.prog X.w) p vs:=I.iK p _ hx
     have hlen:kvs.length=vs.length:=Paired.length r
     exact wpAny_truthy_dict hS m (by omega) ⟨H,I.tok _,by rw[Ek r];exact q⟩
 | _=>exact(show False from e).elim
theorem uc(ha:PE X a ta)(he:∀whole,isTrue a X.env whole=(do let v ←whole;standAt a.pos;holding [v] (truthy v))) :
   PT X a (fun σ H Q=>ta σ H fun x H'=>∃k,PY X.K x H' k∧Q k H'):=by
 intro pins s σ H Q I h
 exact isTrue_plain (i7 (ha pins s σ H _ I h) fun v s1 ⟨x,H1,I1,r1,q1⟩=>MP pins s1 σ H1 x v Q I1 r1 q1) (he _)
theorem yp:wu X (binaryOp .Add) (fun x y H Q=>∃i j,x=.str i∧y=.str j∧i.length+j.length≤sizeLine∧Q (.str (i++j)) H):=by
 intro pins s σ H x y v u Q I rx ry h
 obtain⟨i,j,rfl,rfl,hz,q⟩:=h
 obtain⟨t,rfl⟩:=rx
 obtain⟨t',rfl⟩:=ry
 exact add_str (fun t' tk=>⟨.str (i++j),H,I.tok _,⟨_,rfl⟩,q⟩) hz
theorem vals1{x:V}{us:List Value}(r:Vals [x] us):∃u,us=[u]∧RelV x u:=by
 cases r with
 | cons r1 r2=>cases r2;exact⟨_,rfl,r1⟩
theorem vals2{x y:V}{us:List Value}(r:Vals [x,y] us):∃u w',us=[u,w']∧RelV x u∧RelV y w':=by
 cases r with
 | cons r1 r2=>
   cases r2 with
   | cons r3 r4=>cases r4;exact⟨_,_,rfl,r1,r3⟩
theorem Gq(hc:X.calm=true):ub X (.builtin "max") (fun xs H Q=>∃i j,xs=[.int i,.int j]∧Q (.int (if j>i then j else i)) H):=by
 intro pins s σ H xs us Q I r h
 obtain⟨i,j,rfl,q⟩:=h
 obtain⟨u,w',rfl,⟨t,rfl⟩,⟨t',rfl⟩⟩:=vals2 r
 refine max_two_ints (I.ok.hd hc) fun h' tk k=>⟨_,H,I.kept k,?_,q⟩
 by_cases hj:j>i
 · rw[aar hj,aar hj];exact⟨_,rfl⟩
 · rw[aak hj,aak hj];exact⟨_,rfl⟩
end
structure El(h:Heap)(x dx C:Addr)(mA:Str→Option Value):Prop where
 obj:h.get? x=some (PySem.W.instObj C dx)
 ns:h.Ns1 dx mA
 ne:dx≠x
theorem Gr{h:Heap}{dx:Addr}{mA:Str→Option Value}(n:h.Ns1 dx mA):∃od,h.get? dx=some od∧∀name,PySem.W.lookIn name od=some (mA name):=by
 obtain⟨o,es,ep,ho,hd,hk,_,hm⟩:=n
 refine⟨o,ho,fun name=>?_⟩
 have e:=hm name
 unfold nsFind findBy at e
 rw[←Array.find?_toList] at e
 unfold PySem.W.lookIn
 rw[hd]
 dsimp only
 split
 · rename_i y q
   rw[q] at e
   exact aaW some e
 · rename_i q
   rw[q] at e
   have a:es.toList.any (·.refKey)=false:=by
     rw[List.any_eq_false]
     intro y hy
     obtain⟨z,t,N_⟩:=hk y (Array.mem_toList_iff.mp hy)
     simp[DictEntry.refKey,N_]
   have a':¬es.toList.any (·.refKey)=true:=by rw[a];exact aad
   rw[aak a']
   exact aaW some e
theorem El.look{h:Heap}{x dx C:Addr}{mA:Str→Option Value}(I:El h x dx C mA):∃od,PySem.W.InstAt h x (PySem.W.instObj C dx) C (some od)∧∀name,PySem.W.lookIn name od=some (mA name):=
 let ⟨od,ho,hl⟩:=Gr I.ns
 ⟨od,⟨I.obj,rfl,rfl,ho⟩,hl⟩
section
variable{prog:Program}{w:World}{A:Around}{E:Value→Shared→Prop}{s:Shared}{K:PySem.W.Frag}{x dx C f:Addr}{mA:Str→Option Value}{name:Str}{v:Value}
theorem get_map{expr:Bool}{Q:Value→Shared→Prop}(X:K.In s.heap)(I:El s.heap x dx C mA)(hg:PySem.W.plainGet K C name=true)(hh:PySem.W.hasDictIn K C=true)
   (ha:PySem.W.findIn K (.ref C) name=some none) (hv:mA name=some v) (hv':PySem.W.handedIn v=true) (h:Q v {s with toks:=s.toks+1}) :
   wpAny (model prog w) A (getAttr (.ref x) name expr) Q E s:=by
 obtain⟨od,J,hl⟩:=I.look
 exact PySem.W.get_value X J (PySem.W.plainGet_of hg).1 (PySem.W.findObj_own hh ha rfl (by rw[hl,hv])) hv' h
theorem HM{pl:Sem Bool}{Q:Value×List Value→Shared→Prop}(X:K.In s.heap)(I:El s.heap x dx C mA)(hg:PySem.W.plainGet K C name=true)
   (hf:PySem.W.findIn K (.ref C) name=some (some (.ref f))) (ht:PySem.W.isFn K (.ref f)=true) (hv:mA name=none) (h:Q (.ref f,[.ref x]) s) :
   wpAny (model prog w) A (getMethod (.ref x) name pl) Q E s:=by
 obtain⟨od,J,hl⟩:=I.look
 exact PySem.W.method_fn X J (PySem.W.plainGet_of hg).1 (PySem.W.plainGet_of hg).2 hf (abF.mp ht) (by show(PySem.W.lookIn name od).map (·.isSome)=some false;rw[hl,hv];rfl) h
theorem Ko{ns:List Str}{Q:Unit→Shared→Prop}(X:K.In s.heap)(I:El s.heap x dx C mA)
   (hs:PySem.W.findIn K (.ref C) "__setattr__"=some (some (.builtin "object.__setattr__"))) (hp:PySem.W.plainOver K C=true) (ht:PySem.W.takerIn K C name=some none) (hh:PySem.W.hasDictIn K C=true)
   (hw:PySem.Within mA ns) (hsz:ns.length≤sizeLine)
   (h:∀h',El h' x dx C (fun y=>if y=name then some v else mA y)→Heap.SameBut dx s.heap h'→Q () {s with heap:=h',toks:=s.toks+2}) :
   wpAny (model prog w) A (setAttr (.ref x) name v) Q E s:=by
 obtain⟨od,J,hl⟩:=I.look
 refine PySem.W.set_plain X J hs (PySem.W.osa_open (s:={s with toks:=s.toks+1}) (r:=none) X J hp ht fun b=>?_)
 obtain⟨cd,hc,U9⟩:=PySem.W.any_some hh
 have hx:s.heap.get? x=some ⟨.ref C,some dx,.plain,#[]⟩:=I.obj
 refine wpAny_bind (wpAny_pure (wpAny_bind (wpAny_bind (wpAny_loadPart hx (wpAny_bind (PySem.W.Looks.here (s:={s with toks:=s.toks+1}) (PySem.W.looks_clsIn X hc) ?_))))))
 rw[U9]
 refine wpAny_pure (a:=some dx) (wpAny_bind (wpAny_pure (wpAny_bind ?_)))
 refine wpAny_nsSet1 (s:={s with toks:=s.toks+1}) I.ns fun h' Oa Hx=>?_
 obtain⟨oD,esD,epD,hoD,hdD,hcD⟩:=Oa.count (PySem.Within.cons name v hw)
 refine wpAny_bind (wpAny_lookBehind hoD (by rw[hdD];exact pastItsLine_dict (aab hcD (by rw[aae];omega))) ?_)
 exact wpAny_pure (h _ ⟨(Hx.2 _ (abq I.ne)).trans I.obj,Oa,I.ne⟩ Hx)
theorem HN{R:Result→Shared→Prop}{vs:List Value}{kw:List (Str×Value)}(X:K.In s.heap)(hm:PySem.W.makesIn K C=true)
   (hi:PySem.W.findIn K (.ref C) "__init__"=some (some (.ref f))) (hf:PySem.W.typeIn K (.ref f)=some (.type "function"))
   (h:codeAny (model prog w) (A.under (.builtin "type.__call__" ⟨.ref C::vs,kw⟩)) (.call (.ref f) ⟨.ref (s.heap.objs.size+1)::vs,kw⟩) (PySem.W.InitBack (s.heap.objs.size+1) R)
     {s with heap:=(s.heap.push PySem.W.emptyDict).push (PySem.W.instObj C s.heap.objs.size)}) :
   codeAny (model prog w) A (.call (.ref C) ⟨vs,kw⟩) R s:=by
 obtain⟨hh,g,d,t,os⟩:=s
 exact PySem.W.make_core (PySem.W.makes_of X hm) (PySem.W.looks_findIn X hi) (fun self=>PySem.W.bind_fn X self hf) (.inl rfl) h
end
def jD(f:Str)(v:V):List (Str×V)→List (Str×V)
 | []=>[(f,v)]
 | (g,x)::r=>if g=f then(g,v)::r else(g,x)::jD f v r
theorem wx(f g:Str)(v:V):∀fs:List (Str×V),(jD f v fs).lookup g=if g=f then some v else fs.lookup g
 | []=>by
   show List.lookup g [(f,v)]=_
   by_cases h:g=f
   · have hb:(g ==f)=true:=abF.mpr h
     simp only [List.lookup,hb,aar h]
   · have hb:(g ==f)=false:=abk.mpr h
     simp only [List.lookup,hb,aak h]
 | (k,x)::r=>by
   have ih:=wx f g v r
   rw[show jD f v ((k,x)::r)=(if k=f then(k,v)::r else(k,x)::jD f v r) from rfl]
   by_cases hk:k=f
   · rw[aar hk]
     by_cases h:g=k
     · have hb:(g ==k)=true:=abF.mpr h
       simp only [List.lookup,hb,aar (h.trans hk)]
     · have hb:(g ==k)=false:=abk.mpr h
       simp only [List.lookup,hb,aak (fun e:g=f=>h (e.trans hk.symm))]
   · rw[aak hk]
     by_cases h:g=k
     · have hb:(g ==k)=true:=abF.mpr h
       simp only [List.lookup,hb,aak (fun e:g=f=>hk (h.symm.trans e))]
     · have hb:(g ==k)=false:=abk.mpr h
       simp only [List.lookup,hb]
       exact ih
theorem vc(f:Str)(v:V):∀fs:List (Str×V),f∈(jD f v fs).map (·.1)∧∀g,g∈fs.map (·.1)→g∈(jD f v fs).map (·.1)
 | []=>⟨by simp[jD],fun g h=>by simp at h⟩
 | (k,x)::r=>by
   obtain⟨i1,i2⟩:=vc f v r
   rw[show jD f v ((k,x)::r)=(if k=f then(k,v)::r else(k,x)::jD f v r) from rfl]
   by_cases hk:k=f
   · rw[aar hk]
     subst hk
     exact⟨by simp,fun g h=>by simpa using h⟩
   · rw[aak hk]
     refine⟨?_,fun g h=>?_⟩
     · rw[aas]
       exact aaf _ i1
     · rw[aas] at h ⊢
       rcases XY.mp h with e|e
       · exact XY.mpr (.inl e)
       · exact aaf _ (i2 g e)
theorem wy(f:Str)(v:V):∀fs:List (Str×V),(jD f v fs).length≤fs.length+1
 | []=>by simp[jD]
 | (k,x)::r=>by
   have ih:=wy f v r
   rw[show jD f v ((k,x)::r)=(if k=f then(k,v)::r else(k,x)::jD f v r) from rfl]
   by_cases hk:k=f
   · rw[aar hk,aae,aae];omega
   · rw[aak hk,aae,aae];omega
theorem o3.some_of{v:V}{o:Option Value}(r:o3 (some v) o):∃u,o=some u∧RelV v u:=by
 cases o with
 | none=>exact(show False from r).elim
 | some u=>exact⟨u,rfl,r⟩
theorem o3.none_of{o:Option Value}(r:o3 none o):o=none:=by
 cases o with
 | none=>rfl
 | some u=>exact(show False from r).elim
theorem Gs{v:V}{u:Value}(r:RelV v u):PySem.W.handedIn u=true:=by
 cases v with
 | jx=>cases (show u=Value.none from r);rfl
 | bl b=>cases (show u=Value.bool b from r);rfl
 | int i=>obtain⟨t,e⟩:=(show ∃t,u=Value.int i t from r);cases e;rfl
 | str x=>obtain⟨t,e⟩:=(show ∃t,u=Value.str x t from r);cases e;rfl
 | Eg b=>obtain⟨t,e⟩:=(show ∃t,u=Value.bytes b t from r);cases e;rfl
 | LN b=>obtain⟨t,e⟩:=(show ∃t,u=Value.float b t from r);cases e;rfl
 | ref a=>cases (show u=Value.ref a from r);rfl
 | ty n=>cases (show u=Value.type n from r);rfl
section
variable{P:Program}{w:World}{H H':Hp}{h h':Heap}{a C dx:Addr}{fs fs':List (Str×V)}
theorem x8(iK:qz P w H h)(e:H a=some (.ins C dx fs)):∃mA,El h a dx C mA∧(∀f,o3 (fs.lookup f) (mA f))∧PySem.Within mA (fs.map (·.1))∧fs.length≤1000∧H dx=some (.own a):=by
 obtain⟨d,z,ne,ob,mA,n,r,q⟩:=(show i8 P w H h a (.ins C dx fs) from iK a _ e)
 exact⟨mA,⟨ob,n,ne⟩,r,q,z,d⟩
end
structure CP(K:PySem.W.Frag)(C:Addr):Prop where
 pg:PySem.W.plainGet K C Str.empty=true
 hd:PySem.W.hasDictIn K C=true
 po:PySem.W.plainOver K C=true
 sa:PySem.W.findIn K (.ref C) "__setattr__"=some (some (.builtin "object.__setattr__"))
theorem CP.get{K:PySem.W.Frag}{C:Addr}(c:CP K C)(f:Str):PySem.W.plainGet K C f=true:=c.pg
def jS(K:PySem.W.Frag)(C:Addr)(f:Str):Prop:=PySem.W.findIn K (.ref C) f=some none
theorem jS.PZ{K:PySem.W.Frag}{C:Addr}{f:Str}(n:jS K C f):PySem.W.takerIn K C f=some none:=by
 unfold PySem.W.takerIn
 rw[show PySem.W.findIn K (.ref C) f=some none from n]
 rfl
structure Meth(K:PySem.W.Frag)(C:Addr)(m:Str)(f:Addr):Prop where
 at_:PySem.W.findIn K (.ref C) m=some (some (.ref f))
 fn:PySem.W.isFn K (.ref f)=true
 kp:PySem.W.keepIn K (.ref f)=true
section
variable{X:Cx}{pins:List (Addr×Obj)}{σ:St}{H:Hp}{s:Shared}{a C dx:Addr}{fs:List (Str×V)}{f:Str}{v:V}{A:Around}{E:Value→Shared→Prop}
theorem Em{b:Bool}{Q:Value→Shared→Prop}(I:Inv X pins σ H s)(e:H a=some (.ins C dx fs))(c:CP X.K C)(n:jS X.K C f)(l:fs.lookup f=some v)
   (h:∀u s',Inv X pins σ H s'→RelV v u→Q u s'):wpAny (model X.prog X.w) A (getAttr (.ref a) f b) Q E s:=by
 obtain⟨mA,O,r,_,_,_⟩:=x8 I.iK e
 obtain⟨u,hu,ru⟩:=o3.some_of (v:=v) (o:=mA f) (by rw[←l];exact r f)
 exact get_map I.tZ O (c.get f) c.hd n hu (Gs ru) (h u _ (I.tok _) ru)
theorem tj{m:Str}{g:Addr}{pl:Sem Bool}{Q:Value×List Value→Shared→Prop}(I:Inv X pins σ H s)(e:H a=some (.ins C dx fs))(c:CP X.K C)(k:Meth X.K C m g)(l:fs.lookup m=none)
   (h:Q (.ref g,[.ref a]) s):wpAny (model X.prog X.w) A (getMethod (.ref a) m pl) Q E s:=by
 obtain⟨mA,O,r,_,_,_⟩:=x8 I.iK e
 have hn:mA m=none:=o3.none_of (by rw[←l];exact r m)
 exact HM I.tZ O (c.get m) k.at_ k.fn hn h
theorem En{y:V}{u:Value}{Q:Unit→Shared→Prop}(I:Inv X pins σ H s)(e:H a=some (.ins C dx fs))(c:CP X.K C)(n:jS X.K C f)(hl:fs.length<1000)(ry:RelV y u)
   (h:∀s',Inv X pins σ (upd H a (.ins C dx (jD f y fs))) s'→Q () s'):wpAny (model X.prog X.w) A (setAttr (.ref a) f u) Q E s:=by
 obtain⟨mA,O,r,wi,_,ho⟩:=x8 I.iK e
 have hz:(fs.map (·.1)).length≤sizeLine:=by rw[Ro,sizeLine_eq];omega
 refine Ko I.tZ O c.sa c.po n.PZ c.hd wi hz fun h' O' sb=>h _ ?_
 have hd:∃o,h'.get? dx=some o:=let ⟨o,_,_,e',_⟩:=O'.ns;⟨o,e'⟩
 refine I.write (x:=a) (e:=dx) (by rw[e];exact True.intro) (.inr ho) (fun b q hb z=>(sb.2 b hb).trans z) hd ?_
 refine⟨by rw[de O.ne];exact ho,?_,O.ne,O'.obj,_,O'.ns,fun g=>?_,fun g hg=>?_⟩
 · have:=wy f y fs;omega
 · show o3 ((jD f y fs).lookup g) (if g=f then some u else mA g)
   rw[wx]
   by_cases q:g=f
   · rw[aar q,aar q];exact ry
   · rw[aak q,aak q];exact r g
 · by_cases q:g=f
   · rw[q];exact(vc f y fs).1
   · refine(vc f y fs).2 g (wi g fun z=>hg ?_)
     show(if g=f then some u else mA g)=none
     rw[aak q];exact z
theorem Inv.made(I:Inv X pins σ H s):Inv X pins σ (upd (upd H s.heap.objs.size (.own (s.heap.objs.size+1))) (s.heap.objs.size+1) (.ins C s.heap.objs.size []))
   {s with heap:=(s.heap.push PySem.W.emptyDict).push (PySem.W.instObj C s.heap.objs.size)}:=by
 have e1:(s.heap.push PySem.W.emptyDict).get? s.heap.objs.size=some PySem.W.emptyDict:=Heap.get?_push_size s.heap rfl
 have e2:((s.heap.push PySem.W.emptyDict).push (PySem.W.instObj C s.heap.objs.size)).get? (s.heap.objs.size+1)=some (PySem.W.instObj C s.heap.objs.size):=by
   have:=Heap.get?_push_size (s.heap.push PySem.W.emptyDict) (o:=PySem.W.instObj C s.heap.objs.size) rfl
   rwa [Heap.size_push] at this
 have e3:(s.heap.push PySem.W.emptyDict).Ns s.heap.objs.size (fun _=>none):=⟨PySem.W.emptyDict,#[],_,e1,rfl,(fun e he=>absurd he (by simp)),fun _=>rfl⟩
 have I1:=I.laid (a:=s.heap.objs.size) (o:=.own (s.heap.objs.size+1)) (h':=s.heap.push PySem.W.emptyDict) (t':=s.toks) (fun b u q=>Heap.get?_push_of_some _ q) (UU _) ⟨_,e1⟩
 refine I1.laid (a:=s.heap.objs.size+1) (o:=.ins C s.heap.objs.size []) (t':=s.toks) (fun b u q=>Heap.get?_push_of_some _ q) (Nat.le_of_eq (Heap.size_push _ _)) ?_
 have ne:s.heap.objs.size≠s.heap.objs.size+1:=aaP (abR _)
 refine⟨by rw[de ne,b_],aaE _,ne,e2,fun _=>none,(Heap.Ns1.of_empty e3).at fun o q=>Heap.get?_push_of_some _ q,fun _=>True.intro,fun y hy=>absurd rfl hy⟩
theorem Kq{prog:Program}{w:World}{env:Env}{e:Expr}{f:Str}{pos:Pos}{s:Shared}{Q:Value→Shared→Prop}(hb:attributeBase e f env (eval e env)=eval e env)
   (h:wpAny (model prog w) A (eval e env) (fun o s₁=>wpAny (model prog w) A (getAttr o f true) Q E s₁) E s):wpAny (model prog w) A (eval (.Attribute e f pos) env) Q E s:=
 Attribute_any_ h (by rw[arm_eval_Attribute,hb])
end
def Up(K:PySem.W.Frag)(ta:TE)(f:Str):TE:=fun σ H Q=>ta σ H fun x H1=>∃a C dx fs v,x=.ref a∧H1 a=some (.ins C dx fs)∧CP K C∧jS K C f∧fs.lookup f=some v∧Q v H1
def Uq(K:PySem.W.Frag)(ta tv:TE)(f:Str):TS:=fun D σ H=>tv σ H fun y H1=>ta σ H1 fun x H2=>∃a C dx fs,x=.ref a∧H2 a=some (.ins C dx fs)∧CP K C∧jS K C f∧fs.length<1000∧
 D.nx σ (upd H2 a (.ins C dx (jD f y fs)))
section
variable{X:Cx}{o e value:Expr}{f:Str}{pos pos' Ob:Pos}{ta tv:TE}
theorem gz(he:PE X e ta)(hb:attributeBase e f X.env (eval e X.env)=eval e X.env):PE X (.Attribute e f pos) (Up X.K ta f):=by
 intro pins s σ H Q I h
 refine Kq hb (i7 (he pins s σ H _ I h) fun u s1 ⟨x,H1,I1,rx,a,C,dx,fs,v,ex,ea,c,n,l,q⟩=>?_)
 subst ex
 obtain rfl:u=Value.ref a:=rx
 exact Em I1 ea c n l fun u' s2 I2 ru=>⟨v,H1,I2,ru,q⟩
theorem lx(ha:PE X o ta)(hv:PE X value tv)(hs:swapsWith value (some (.Attribute o f pos')) pos.line X.env=pure false):PS X (.Assign [.Attribute o f pos'] value pos) (Uq X.K ta tv f):=by
 intro pins s σ H D I h
 refine plainObj_wpAny_Assign_Attribute (i7 (hv pins s σ H _ I h) fun u s1 ⟨y,H1,I1,ry,q⟩=>i7 (ha pins s1 σ H1 _ I1 q) fun ov s2 ⟨x,H2,I2,rx,a,C,dx,fs,ex,ea,c,n,l,q2⟩=>?_) hs
 subst ex
 obtain rfl:ov=Value.ref a:=rx
 exact En I2 ea c n l ry fun s3 I3=>⟨σ,_,I3,q2⟩
end
section
variable{X:Cx}{pins:List (Addr×Obj)}{σ:St}{H:Hp}{s:Shared}{A:Around}{E:Value→Shared→Prop}{Q:Value→Shared→Prop}{c:Value}{b:Bool}
inductive ve(K:PySem.W.Frag)(H:Hp):V→Value→Prop where
 | jx:ve K H .jx (.type "NoneType")
 | bl (x:Bool):ve K H (.bl x) (.type "bool")
 | int (i:Int):ve K H (.int i) (.type "int")
 | str (x:Str):ve K H (.str x) (.type "str")
 | LN (x:UInt64):ve K H (.LN x) (.type "float")
 | lst {a:Addr} {xs:List V} (e:H a=some (.lst xs)):ve K H (.ref a) (.type "list")
 | mK {a:Addr} {o:Obj} {xs:List V} (e:H a=some (.mK o (.lst xs))):ve K H (.ref a) (.type "list")
 | tup {a:Addr} {xs:List V} (e:H a=some (.tup xs)):ve K H (.ref a) (.type "tuple")
 | dK {a:Addr} {kvs:List (Key×V)} (e:H a=some (.dK kvs)):ve K H (.ref a) (.type "dict")
 | dT {a:Addr} {kvs:List (List Key×V)} (e:H a=some (.dT kvs)):ve K H (.ref a) (.type "dict")
 | ins {a C dx:Addr} {fs:List (Str×V)} (e:H a=some (.ins C dx fs)) (cl:CP K C) (ha:PySem.W.findIn K (.ref C) "__class__"=some (some (.builtin "object.__class__")))
     (hn:PySem.W.specialIn K (.builtin "object.__class__") "__get__"=some (some (.builtin "getset_descriptor.__get__"))) (Yh:PySem.W.takesIn K (.builtin "object.__class__")=some true)
     (hm:PySem.W.mroIn K C (.type "object")=some true):ve K H (.ref a) (.ref C)
theorem Gu{x:V}{u t:Value}(I:Inv X pins σ H s)(rx:RelV x u)(ty:ve X.K H x t)(e:PySem.W.kitOne X.K t c=some b)(h:∀tk,Q (.bool b) {s with toks:=tk}) :
   wpAny (model X.prog X.w) A (call (.builtin "isinstance") [u,c]) Q E s:=by
 cases ty with
 | jx=>cases (show u=Value.none from rx);exact aa5 PySem.W.kitx_none I.tZ True.intro e (fun z=>nomatch z) h
 | bl y=>cases (show u=Value.bool y from rx);exact aa5 PySem.W.kitx_bool I.tZ True.intro e (fun z=>nomatch z) h
 | int i=>obtain⟨t,q⟩:=(show ∃t,u=Value.int i t from rx);cases q;exact aa5 PySem.W.kitx_int I.tZ True.intro e (fun z=>nomatch z) h
 | str y=>obtain⟨t,q⟩:=(show ∃t,u=Value.str y t from rx);cases q;exact aa5 PySem.W.kitx_str I.tZ True.intro e (fun z=>nomatch z) h
 | LN y=>obtain⟨t,q⟩:=(show ∃t,u=Value.float y t from rx);cases q;exact aa5 PySem.W.kitx_float I.tZ True.intro e (fun z=>nomatch z) h
 | @lst a xs ea=>
   cases (show u=Value.ref a from rx)
   obtain⟨_,_,n,_,h1⟩:=(show i8 X.prog X.w H s.heap a (.lst xs) from I.iK a _ ea)
   exact aa5 PySem.W.kitx_list I.tZ ⟨_,h1,rfl⟩ e (fun z=>nomatch z) h
 | @mK a ob xs ea=>
   cases (show u=Value.ref a from rx)
   obtain⟨_,_,_,n,_,h1⟩:=(show i8 X.prog X.w H s.heap a (.mK ob (.lst xs)) from I.iK a _ ea)
   exact aa5 PySem.W.kitx_list I.tZ ⟨_,h1,rfl⟩ e (fun z=>nomatch z) h
 | @tup a xs ea=>
   cases (show u=Value.ref a from rx)
   obtain⟨_,_,_,p⟩:=(show i8 X.prog X.w H s.heap a (.tup xs) from I.iK a _ ea)
   obtain⟨o,h1,h2,_⟩:=p
   exact aa5 PySem.W.kitx_tuple I.tZ ⟨o,h1,h2⟩ e (fun z=>nomatch z) h
 | @dK a kvs ea=>
   cases (show u=Value.ref a from rx)
   obtain⟨_,_,vs,_,p⟩:=(show i8 X.prog X.w H s.heap a (.dK kvs) from I.iK a _ ea)
   obtain⟨o,es,ep,h1,h2,_⟩:=p
   exact aa5 PySem.W.kitx_dict I.tZ ⟨o,h1,h2.1⟩ e (fun z=>nomatch z) h
 | @dT a kvs ea=>
   cases (show u=Value.ref a from rx)
   obtain⟨_,_,xs,_,o,es,ep,h1,h2,_⟩:=(show i8 X.prog X.w H s.heap a (.dT kvs) from I.iK a _ ea)
   exact aa5 PySem.W.kitx_dict I.tZ ⟨o,h1,h2.1⟩ e (fun z=>nomatch z) h
 | @ins a C dx fs ea cl ha hn Yh hm=>
   cases (show u=Value.ref a from rx)
   obtain⟨mA,O,_⟩:=x8 I.iK ea
   obtain⟨od,J,_⟩:=O.look
   exact aa5 (PySem.W.kitx_own (cl.get _) cl.hd ha hn Yh hm) I.tZ J e (fun z=>nomatch z) h
end
structure kF(k:Nat)(A:Around):Prop where
 hd:A.handled=none
 dp:A.depth+3*k+5<recursionLimit
 un:A.units+16*k+200<cLine
theorem kF.mono{j k:Nat}{A:Around}(r:kF k A)(h:j≤k):kF j A:=⟨r.hd,by have:=r.dp;omega,by have:=r.un;omega⟩
theorem kF.deeper{k:Nat}{A:Around}(r:kF (k+1) A)(env:Env):kF k (A.deeper env):=
 ⟨r.hd,by have:=r.dp;show A.depth+1+3*k+5<_;omega,by have:=r.un;show A.units+3+16*k+200<_;omega⟩
theorem Eo{A:Around}{C:Addr}{us:List Value}{kw:List (Str×Value)}:(A.under (.builtin "type.__call__" ⟨.ref C::us,kw⟩)).depth=A.depth+1:=by
 first|rfl|simp[Around.under,Code.weight,Code.isCreation,Code.isGuard,Code.isCaller,Code.frames,Code.isFrame,guardIds]
theorem Ep{A:Around}{C:Addr}{us:List Value}{kw:List (Str×Value)}:(A.under (.builtin "type.__call__" ⟨.ref C::us,kw⟩)).units=A.units+1:=by
 first|rfl|simp[Around.under,Code.cUnits,Code.frames,Code.isFrame]
theorem kF.make{k:Nat}{A:Around}(r:kF (k+1) A)(C:Addr)(us:List Value)(kw:List (Str×Value)):kF k (A.under (.builtin "type.__call__" ⟨.ref C::us,kw⟩)):=
 ⟨r.hd,by have:=r.dp;rw[Eo];omega,by have:=r.un;rw[Ep];omega⟩
theorem kF.depth{k:Nat}{A:Around}(r:kF k A):A.depth<recursionLimit:=by have:=r.dp;omega
theorem kF.units{k:Nat}{A:Around}(r:kF k A):A.units+64<cLine:=by have:=r.un;omega
def MQ:TA:=fun _ H Q=>Q [] H
def P0(ta:TE)(tr:TA):TA:=fun σ H Q=>ta σ H fun x H1=>tr σ H1 fun xs H2=>Q (x::xs) H2
section
variable{X:Cx}{e:Expr}{es:List Expr}{te:TE}{t:TA}{pos:Pos}
theorem d_:PA X [] MQ:=fun _ _ _ _ H Q I h=>Calls.spliced_nil ⟨[],H,I,.nil,h⟩
theorem a_(ha:PE X e te)(hr:PA X es t)(hs:starEach (e::es) X.env=(false,eval e X.env)::starEach es X.env:=by rfl):PA X (e::es) (P0 te t):=by
 intro pos pins s σ H Q I h
 rw[hs]
 show wpAny _ _ (spliced ((false,eval e X.env)::backTo pos (starEach es X.env))) _ _ s
 refine Calls.spliced_cons (i7 (ha pins s σ H _ I h) fun u s1 ⟨x,H1,I1,r1,q1⟩=>?_)
 exact i7 (hr pos pins s1 σ H1 _ I1 q1) fun us s2 ⟨xs,H2,I2,r2,q2⟩=>⟨x::xs,H2,I2,.cons r1 r2,q2⟩
def Ur(t:TA):TE:=fun σ H Q=>t σ H fun xs H1=>xs.length≤sizeLine∧∀p,H1 p=none→Q (.ref p) (upd H1 p (.tup xs))
def Us(t:TA):TE:=fun σ H Q=>t σ H fun xs H1=>xs.length≤sizeLine∧∀p,H1 p=none→Q (.ref p) (upd H1 p (.lst xs))
theorem Bm{x1}(h:PA X es t):PE X (.Tuple es x1 pos) (Ur t):=by
 intro pins s σ H Q I hq
 refine wpAny_Tuple_spliced (i7 (h pos pins s σ H _ I hq) fun us s1 ⟨xs,H1,I1,r,z,q⟩=>⟨by rw[←r.length];exact z,?_⟩)
 have hf:H1 s1.heap.objs.size=none:=I1.iK.fresh (UU _)
 refine⟨.ref s1.heap.objs.size,upd H1 s1.heap.objs.size (.tup xs),I1.laid (t':=s1.toks) (fun b u e=>Heap.get?_push_of_some _ e) (UU _) ?_,rfl,q _ hf⟩
 exact⟨z,us,r,⟨_,Heap.get?_push_size _ rfl,rfl,_,rfl⟩⟩
theorem iQ(h:PA X es t):PE X (.List es pos) (Us t):=by
 intro pins s σ H Q I hq
 refine wpAny_List_spliced (i7 (h pos pins s σ H _ I hq) fun us s1 ⟨xs,H1,I1,r,z,q⟩=>⟨by rw[←r.length];exact z,?_⟩)
 have hf:H1 s1.heap.objs.size=none:=I1.iK.fresh (UU _)
 refine⟨.ref s1.heap.objs.size,upd H1 s1.heap.objs.size (.lst xs),I1.laid (t':=s1.toks) (fun b u e=>Heap.get?_push_of_some _ e) (UU _) ?_,rfl,q _ hf⟩
 exact⟨z,us,0,r,Heap.get?_push_size _ rfl⟩
end
abbrev Sp:=List V→Hp→VK→XK→Prop
abbrev Er:=List Env→Hp→Shared→XK→Value→Shared→Prop
structure Es(P:Program)(w:World)(K:PySem.W.Frag)(mg:Str→Option Value)(base:Heap)(A:Around)(outer:List Env)(s:Shared)(H:Hp):Prop where
 frames:A.frames=some outer
 mod:Mod K mg base
 bs:∀b o,base.get? b=some o→s.heap.get? b=some o∧H b=none
 HF:base.objs.size≤s.heap.objs.size
 sx:s.heap.FunFrames base outer
 Kb:∀b∈qM outer,H b=none
 iK:qz P w H s.heap
 bare:AllBare s.gens
def CE(outer:List Env)(P:Program)(w:World)(H:Hp)(s:Shared)(Q:VK)(u:Value)(s':Shared):Prop:=
 ∃v H',s'.os=s.os∧AllBare s'.gens∧Un (qM outer) [] H H' s.heap s'.heap∧qz P w H' s'.heap∧RelV v u∧Q v H'
def CR(CX:Er)(outer:List Env)(P:Program)(w:World)(H:Hp)(s:Shared)(Q:VK)(E:XK)(r:Result)(s':Shared):Prop:=
 match r with
 | .ok (.ret u)=>CE outer P w H s Q u s'
 | .ok _=>False
 | .error e=>CX outer H s E e s'
structure iw(P:Program)(w:World)(K:PySem.W.Frag)(mg:Str→Option Value)(base:Heap)(CX:Er)(k:Nat)(f:Addr)(fd:FuncData)(ps:List Str)(sp:Sp):Prop where
 len:∀vs H Q E,sp vs H Q E→vs.length=ps.length
 run:∀(A:Around)(outer:List Env)(s:Shared)(H:Hp)(args:Args)(us:List Value)(vs:List V)(Q:VK)(E:XK),kF k A→Es P w K mg base A outer s H→BindsTo s fd args (ps.zip us)→Vals vs us→sp vs H Q E→
   codeAny (model P w) A (.call (.ref f) args) (CR CX outer P w H s Q E) s
theorem iw.mono{P:Program}{w:World}{K:PySem.W.Frag}{mg:Str→Option Value}{base:Heap}{CX:Er}{j k:Nat}{f:Addr}{fd:FuncData}{ps:List Str}{sp:Sp}(F:iw P w K mg base CX j f fd ps sp)(h:j≤k) :
   iw P w K mg base CX k f fd ps sp:=⟨F.len,fun A outer s H args us vs Q E hr=>F.run A outer s H args us vs Q E (hr.mono h)⟩
theorem Es.make{P:Program}{w:World}{K:PySem.W.Frag}{mg:Str→Option Value}{base:Heap}{A:Around}{outer:List Env}{s:Shared}{H:Hp}(e:Es P w K mg base A outer s H)(C:Addr)(us:List Value)(kw:List (Str×Value)) :
   Es P w K mg base (A.under (.builtin "type.__call__" ⟨.ref C::us,kw⟩)) outer s H:=⟨by first|exact e.frames|(simpa[Around.under,Code.envs,Code.isFrame,pushEnvs] using e.frames),e.mod,e.bs,e.HF,e.sx,e.Kb,e.iK,e.bare⟩
section
variable{X:Cx}{pins:List (Addr×Obj)}{σ:St}{H:Hp}{s s':Shared}
theorem Inv.MR(I:Inv X pins σ H s):Es X.prog X.w X.K X.mg X.base X.A X.stack s H:=
 ⟨I.ok.frames,I.ok.mod,I.bs,aab I.ok.HF I.sz,I.stack,I.xY,I.iK,I.bare⟩
theorem Inv.after{Q:VK}{u:Value}(I:Inv X pins σ H s)(h:CE X.stack X.prog X.w H s Q u s'):EP X pins σ Q u s':=by
 obtain⟨v,H',os,bare,un,iK,r,q⟩:=h
 obtain⟨hh,g,d,t,os'⟩:=s'
 obtain rfl:os'=s.os:=os
 exact⟨v,H',I.call (h':=hh) (g':=g) (d':=d) (t':=t) (ch:=[]) un iK bare (fun b z=>absurd z (by simp)),r,q⟩
end
def HP(sp:Sp)(tY:List V)(E:XK)(t:TA):TE:=fun σ H Q=>t σ H fun vs H1=>sp (vs++tY) H1 Q E
def CQ(C:Addr)(m:Str)(sp:Sp)(tY:List V)(E:XK)(ta:TE)(t:TA):TE:=fun σ H Q=>ta σ H fun x H1=>∃a dx fs,x=.ref a∧H1 a=some (.ins C dx fs)∧fs.lookup m=none∧
 t σ H1 fun vs H2=>sp (x::(vs++tY)) H2 Q E
def LV(C:Addr)(sp:Sp)(tY:List V)(E:XK)(t:TA):TE:=fun σ H Q=>t σ H fun vs H1=>∀x dx,H1 x=none→H1 dx=none→dx≠x→
 sp (.ref x::(vs++tY)) (upd (upd H1 dx (.own x)) x (.ins C dx [])) (fun v H2=>v=.jx∧Q (.ref x) H2) E
def Binds(K:PySem.W.Frag)(fd:FuncData)(ps:List Str)(ds:List Value):Prop:=
 ∀(s:Shared)(us:List Value),K.In s.heap→(us++ds).length=ps.length→BindsTo s fd ⟨us,[]⟩ (ps.zip (us++ds))
theorem Binds.all{K:PySem.W.Frag}{fd:FuncData}{ps:List Str}(h:∀us:List Value,us.length=ps.length→bindArgs fd ⟨us,[]⟩=pure (ps.zip us)):Binds K fd ps []:=fun s us _ hl=>by
 rw[aaF] at hl ⊢
 exact .of_eq (h us hl)
def Passes(CX:Er)(X:Cx)(E:XK):Prop:=∀(pins:List (Addr×Obj))(σ:St)(H:Hp)(s:Shared)(e:Value)(s':Shared),Inv X pins σ H s→CX X.stack H s E e s'→X.xe e s'
section
variable{X:Cx}{CX:Er}{k:Nat}{f C:Addr}{fd:FuncData}{ps:List Str}{sp:Sp}{tY:List V}{ds:List Value}{E:XK}{x m:Str}{p pos apos:Pos}{e o:Expr}{es:List Expr}{ta:TE}{t:TA}
theorem Et{pins:List (Addr×Obj)}{σ:St}{H:Hp}{s:Shared}{Q:VK}{us:List Value}{vs:List V}(F:iw X.prog X.w X.K X.mg X.base CX k f fd ps sp)(hr:kF k X.A)(hb:Binds X.K fd ps ds)(hd:Vals tY ds)(hx:Passes CX X E)
   (I:Inv X pins σ H s) (r:Vals vs us) (h:sp (vs++tY) H Q E):wpAny (model X.prog X.w) X.A (call (.ref f) us) (EP X pins σ Q) X.xe s:=by
 have r2:Vals (vs++tY) (us++ds):=r.append hd
 have hl:(us++ds).length=ps.length:=by rw[←r2.length];exact F.len _ _ _ _ h
 refine wpAny_call (codeAny_mono (F.run X.A X.stack s H ⟨us,[]⟩ (us++ds) (vs++tY) Q E hr I.MR (hb s us I.tZ hl) r2 h) fun r s' hq=>?_)
 cases r with
 | error e=>exact hx pins σ H s e s' I hq
 | ok fl=>
   cases fl with
   | ret u=>exact I.after hq
   | next=>exact False.elim hq
   | brk=>exact False.elim hq
   | cont=>exact False.elim hq
theorem ud(F:iw X.prog X.w X.K X.mg X.base CX k f fd ps sp)(hr:kF k X.A)(hg:Gl X x)(hm:X.mg x=some (.ref f))(hk:PySem.W.keepIn X.K (.ref f)=true)(hb:Binds X.K fd ps ds)(hd:Vals tY ds)(hx:Passes CX X E)
   (ha:PA X (e::es) t) (D2:(x ==("__debug__":Str))=false:=by decide) (he:starEach (e::es) X.env=(false,eval e X.env)::starEach es X.env:=by rfl) (pM:(backTo pos (starEach es X.env)).any (·.1)=false:=by rfl) :
   PE X (.Call (.Name x p) (e::es) [] pos) (HP sp tY E t):=by
 intro pins s σ H Q I h
 refine wpAny_Call_Name_kw (rX I hg hm ?_ D2)
 refine PySem.W.callWith_K (h₀:=X.base) I.ok.mod.MD hk (i7 (ha pos pins s σ H _ I h) fun us s1 ⟨vs,H1,I1,r,q⟩=>⟨I1.tZ,?_⟩) he pM
 exact Et F hr hb hd hx I1 r q
theorem Fw{pl:Sem Bool}(he:PE X o ta)(c:CP X.K C)(hm:Meth X.K C m f)(F:iw X.prog X.w X.K X.mg X.base CX k f fd ps sp)(hr:kF k X.A)(hb:Binds X.K fd ps ds)(hd:Vals tY ds)(hx:Passes CX X E)(ha:PA X (e::es) t)
   (xS:starEach (e::es) X.env=(false,eval e X.env)::starEach es X.env:=by rfl) (pM:(backTo pos (starEach es X.env)).any (·.1)=false:=by rfl)
   (ht:eval (.Call (.Attribute o m apos) (e::es) [] pos) X.env=(do
     let ov ←eval o X.env
     standAt apos.atName
     let (f,first) ←holding [ov] (getMethod ov m pl)
     callWith pos f first (backTo pos (starEach (e::es) X.env)) (backToKw pos (keywordEach [] X.env))):=by rfl) :
   PE X (.Call (.Attribute o m apos) (e::es) [] pos) (CQ C m sp tY E ta t):=by
 intro pins s σ H Q I h
 refine PySem.W.methodCall_KW (pl:=pl) (i7 (he pins s σ H _ I h) fun u s1 ⟨x,H1,I1,rx,a,dx,fs,ex,ea,l,q⟩=>?_) ht
 subst ex
 obtain rfl:u=Value.ref a:=rx
 refine tj I1 ea c hm l ?_
 refine PySem.W.callWith_K (first:=[.ref a]) (h₀:=X.base) I.ok.mod.MD hm.kp (i7 (ha pos pins s1 σ H1 _ I1 q) fun us s2 ⟨vs,H2,I2,r,q2⟩=>⟨I2.tZ,?_⟩) xS pM
 exact Et (us:=.ref a::us) (vs:=.ref a::vs) F hr hb hd hx I2 (.cons rfl r) q2
theorem yq{pl:Sem Bool}(he:PE X o ta)(c:CP X.K C)(hm:Meth X.K C m f)(F:iw X.prog X.w X.K X.mg X.base CX k f fd ps sp)(hr:kF k X.A)(hb:Binds X.K fd ps ds)(hd:Vals tY ds)(hx:Passes CX X E)
   (ht:eval (.Call (.Attribute o m apos) [] [] pos) X.env=(do
     let ov ←eval o X.env
     standAt apos.atName
     let (f,first) ←holding [ov] (getMethod ov m pl)
     callWith pos f first (backTo pos (starEach [] X.env)) (backToKw pos (keywordEach [] X.env))):=by rfl) :
   PE X (.Call (.Attribute o m apos) [] [] pos) (CQ C m sp tY E ta MQ):=by
 intro pins s σ H Q I h
 refine PySem.W.methodCall_KW (pl:=pl) (i7 (he pins s σ H _ I h) fun u s1 ⟨x,H1,I1,rx,a,dx,fs,ex,ea,l,q⟩=>?_) ht
 subst ex
 obtain rfl:u=Value.ref a:=rx
 refine tj I1 ea c hm l ?_
 exact PySem.W.callWith_K0 (first:=[.ref a]) I1.tZ hm.kp (Et (us:=[.ref a]) (vs:=[.ref a]) F hr hb hd hx I1 (.cons rfl .nil) q)
structure Mk(K:PySem.W.Frag)(C f:Addr):Prop where
 makes:PySem.W.makesIn K C=true
 init:PySem.W.findIn K (.ref C) "__init__"=some (some (.ref f))
 fn:PySem.W.isFn K (.ref f)=true
 kp:PySem.W.keepIn K (.ref C)=true
theorem CS{pins:List (Addr×Obj)}{σ:St}{H:Hp}{s:Shared}{Q:VK}{us:List Value}{vs:List V}(M:Mk X.K C f)(F:iw X.prog X.w X.K X.mg X.base CX k f fd ps sp)(hr:kF (k+1) X.A)(hb:Binds X.K fd ps ds)(hd:Vals tY ds)
   (hx:Passes CX X E) (I:Inv X pins σ H s) (r:Vals vs us)
   (h:∀x dx,H x=none→H dx=none→dx≠x→sp (.ref x::(vs++tY)) (upd (upd H dx (.own x)) x (.ins C dx [])) (fun v H2=>v=.jx∧Q (.ref x) H2) E) :
   wpAny (model X.prog X.w) X.A (call (.ref C) us) (EP X pins σ Q) X.xe s:=by
 have hq:=h (s.heap.objs.size+1) s.heap.objs.size (I.iK.fresh (Nat.le_succ _)) (I.iK.fresh (UU _)) (aaP (abR _))
 have I2:=Inv.made (C:=C) I
 have r2:Vals (V.ref (s.heap.objs.size+1)::(vs++tY)) (Value.ref (s.heap.objs.size+1)::(us++ds)):=.cons rfl (r.append hd)
 have hl:(Value.ref (s.heap.objs.size+1)::us++ds).length=ps.length:=by
   have e:=r2.length
   rw[F.len _ _ _ _ hq] at e
   exact e.symm
 refine wpAny_call (HN (f:=f) I.tZ M.makes M.init (abF.mp M.fn) (codeAny_mono (F.run _ X.stack _ _ ⟨Value.ref (s.heap.objs.size+1)::us,[]⟩ (Value.ref (s.heap.objs.size+1)::(us++ds)) _ _ E (hr.make C us [])
   (I2.MR.make C us []) (hb _ (Value.ref (s.heap.objs.size+1)::us) I2.tZ hl) r2 hq) fun r s' QQ=>?_))
 cases r with
 | error e=>exact hx pins σ _ _ e s' I2 QQ
 | ok fl=>
   cases fl with
   | ret u=>
     obtain⟨v,H',I3,rv,ev,q3⟩:=I2.after QQ
     subst ev
     exact⟨rv,⟨V.ref (s.heap.objs.size+1),H',I3,rfl,q3⟩⟩
   | next=>exact False.elim QQ
   | brk=>exact False.elim QQ
   | cont=>exact False.elim QQ
theorem ue(M:Mk X.K C f)(F:iw X.prog X.w X.K X.mg X.base CX k f fd ps sp)(hr:kF (k+1) X.A)(hg:Gl X x)(hm:X.mg x=some (.ref C))(hb:Binds X.K fd ps ds)(hd:Vals tY ds)(hx:Passes CX X E)
   (ha:PA X (e::es) t) (D2:(x ==("__debug__":Str))=false:=by decide) (he:starEach (e::es) X.env=(false,eval e X.env)::starEach es X.env:=by rfl) (pM:(backTo pos (starEach es X.env)).any (·.1)=false:=by rfl) :
   PE X (.Call (.Name x p) (e::es) [] pos) (LV C sp tY E t):=by
 intro pins s σ H Q I h
 refine wpAny_Call_Name_kw (rX I hg hm ?_ D2)
 refine PySem.W.callWith_K (h₀:=X.base) I.ok.mod.MD M.kp (i7 (ha pos pins s σ H _ I h) fun us s1 ⟨vs,H1,I1,r,q⟩=>⟨I1.tZ,?_⟩) he pM
 exact CS M F hr hb hd hx I1 r q
theorem HQ(M:Mk X.K C f)(F:iw X.prog X.w X.K X.mg X.base CX k f fd ps sp)(hr:kF (k+1) X.A)(hg:Gl X x)(hm:X.mg x=some (.ref C))(hb:Binds X.K fd ps ds)(hd:Vals tY ds)(hx:Passes CX X E)
   (D2:(x ==("__debug__":Str))=false:=by decide):PE X (.Call (.Name x p) [] [] pos) (LV C sp tY E MQ):=by
 intro pins s σ H Q I h
 refine wpAny_Call_Name_kw (rX I hg hm ?_ D2)
 exact PySem.W.callWith_K0 I.tZ M.kp (CS (us:=[]) M F hr hb hd hx I .nil h)
end
def PK(X:Cx)(Yi:List Keyword)(t:TA):Prop:=
 ∀(pos:Pos)(pins:List (Addr×Obj))(s:Shared)(σ:St)(H:Hp)(Q:List V→Hp→Prop),Inv X pins σ H s→t σ H Q→wpAny (model X.prog X.w) X.A (evalAll ((backToKw pos (keywordEach Yi X.env)).map (·.2))) (AP X pins σ Q) X.xe s
section
variable{X:Cx}{CX:Er}{k:Nat}{f C:Addr}{fd:FuncData}{ps ks:List Str}{sp:Sp}{E:XK}{x m:Str}{p pos apos kpos:Pos}{e o:Expr}{es:List Expr}{Yi:List Keyword}{te ta:TE}{t tk:TA}{nm:Option Str}
variable{g:List Value→List Value→List Value}{gV:List V→List V→List V}
end
structure gw(N P:List Str)(sc:Scope):Prop where
 kind:sc.kind=.function
 co:sc.isCoroutine=false
 gen:sc.isGenerator=false
 nd:N.Nodup
 pre:N.take P.length=P
 par:∀x∈P,sc.names.lookup x=some .local∨sc.names.lookup x=some .cell
 MS:∀y∈sc.names,y.2≠.free
theorem AB{kindOf:Str→Option NameKind}{x:Str}:∀{binds:List (Str×Value)} {m:Str→Option Value},(∀v,(x,v)∉binds)→bindL kindOf binds m x=m x
 | [],_,_=>rfl
 | (n,v)::r,m,h=>by
   unfold bindL
   rw[AB fun w hw=>h w (aaf _ hw)]
   split
   · have:x≠n:=by rintro rfl;exact h v aal
     simp[this]
   · rfl
theorem AD{kindOf:Str→Option NameKind}{x:Str}:∀{binds:List (Str×Value)} {m:Str→Option Value},(∀v,(x,v)∉binds)→bindC kindOf binds m x=m x
 | [],_,_=>rfl
 | (n,v)::r,m,h=>by
   unfold bindC
   rw[AD fun w hw=>h w (aaf _ hw)]
   split
   · rfl
   · have:x≠n:=by rintro rfl;exact h v aal
     simp[this]
theorem AE{kindOf:Str→Option NameKind}{x:Str}{v:Value}:∀{P:List Str} {vs:List Value} {i:Nat} {m:Str→Option Value},P.Nodup→P[i]?=some x→vs[i]?=some v→kindOf x=some .local→
   bindL kindOf (P.zip vs) m x=some v
 | [],_,_,_,_,h,_,_=>by simp at h
 | _::_,[],_,_,_,_,h,_=>by simp at h
 | p::P,w::vs,0,m,nd,h1,h2,hk=>by
   simp at h1 h2;subst h1;subst h2
   show bindL kindOf ((p,w)::P.zip vs) m p=_
   unfold bindL
   rw[AB fun v hv=>(aaK.mp nd).1 (List.of_mem_zip hv).1,aar hk]
   simp
 | p::P,w::vs,i+1,m,nd,h1,h2,hk=>by
   show bindL kindOf ((p,w)::P.zip vs) m x=_
   unfold bindL
   exact AE (i:=i) (aaK.mp nd).2 (by simpa using h1) (by simpa using h2) hk
theorem AF{kindOf:Str→Option NameKind}{x:Str}{v:Value}:∀{P:List Str} {vs:List Value} {i:Nat} {m:Str→Option Value},P.Nodup→P[i]?=some x→vs[i]?=some v→kindOf x≠some .local→
   bindC kindOf (P.zip vs) m x=some v
 | [],_,_,_,_,h,_,_=>by simp at h
 | _::_,[],_,_,_,_,h,_=>by simp at h
 | p::P,w::vs,0,m,nd,h1,h2,hk=>by
   simp at h1 h2;subst h1;subst h2
   show bindC kindOf ((p,w)::P.zip vs) m p=_
   unfold bindC
   rw[AD fun v hv=>(aaK.mp nd).1 (List.of_mem_zip hv).1,aak hk]
   simp
 | p::P,w::vs,i+1,m,nd,h1,h2,hk=>by
   show bindC kindOf ((p,w)::P.zip vs) m x=_
   unfold bindC
   exact AF (i:=i) (aaK.mp nd).2 (by simpa using h1) (by simpa using h2) hk
def start(N:List Str)(vs:List V):St:=vs.map some++List.replicate (N.length-vs.length) none
def yr(CX:Er)(P:Program)(w:World)(K:PySem.W.Frag)(mg:Str→Option Value)(base:Heap)(N:List Str)(qual:Str)(scope:Scope)(f:Addr)(cd:Value)(A:Around)(outer:List Env)(s:Shared)(H:Hp)(E:XK):Cx where
 prog:=P
 w:=w
 K:=K
 mg:=mg
 base:=base
 A:=A.deeper (envOfC qual scope s.heap.objs.size f cd)
 N:=N
 s₀:=s
 H₀:=H
 env:=envOfC qual scope s.heap.objs.size f cd
 outer:=outer
 stack:=envOfC qual scope s.heap.objs.size f cd::outer
 ex:=[]
 calm:=true
 fn:=fun _=>true
 pn:=[]
 xe:=fun e s'=>wpAny (model P w) (A.deeper (envOfC qual scope s.heap.objs.size f cd)) (leaving (envOfC qual scope s.heap.objs.size f cd) e) (fun _ Hg=>CX outer H s E e Hg) (fun e' Hg=>CX outer H s E e' Hg) s'
theorem CT{sc:Scope}{n:Nat}{x:Str}(h:sc.names.lookup x=some .cell):∃c,(cellsFrom n sc.names []).lookup x=some c:=by
 have q:=PySem.W.cellsFrom_some sc.names n [] (.inl h)
 exact Option.isSome_iff_exists.mp q
theorem Gv{CX:Er}{P:Program}{w:World}{K:PySem.W.Frag}{mg:Str→Option Value}{base:Heap}{N ps:List Str}{qual:Str}{scope:Scope}{f:Addr}{cd:Value}{A:Around}{outer:List Env}{s s1:Shared}{H:Hp}{E:XK}{us:List Value}{vs:List V}
   (S:gw N ps scope) (hd:A.handled=none) (e0:Es P w K mg base A outer s H) (hl:vs.length=ps.length) (r:Vals vs us)
   (x:InCallC s s.heap.objs.size (bindL (envOfC qual scope s.heap.objs.size f cd).kindOf (ps.zip us) fun _=>none) (cellsFrom (s.heap.objs.size+1) scope.names []) (bindC (envOfC qual scope s.heap.objs.size f cd).kindOf (ps.zip us) fun _=>none) s1) :
   Inv (yr CX P w K mg base N qual scope f cd A outer s H E) [] (start N vs) H s1:=by
 have pM:ps.length≤N.length:=by have:=aaW List.length S.pre;rw[aav] at this;omega
 obtain⟨h1,tk,rfl,hk⟩:=x.done
 have QR:∀b:Addr,b∉(yr CX P w K mg base N qual scope f cd A outer s H E).ex:=fun b z=>absurd (show b∈([]:List Addr) from z) (by simp)
 refine⟨⟨e0.mod,S.kind,rfl,rfl,UU _,fun y z c h1 h2=>?_,fun y hy=>?_,fun y c _ h=>?_,fun _=>hd,Around.frames_deeper e0.frames,.inr ⟨rfl,rfl⟩,fun b z=>absurd z (QR b),e0.bs,e0.HF,fun b _ _=>QR b,fun b z=>absurd z (QR b),e0.sx,e0.Kb⟩,
   rfl,e0.bare,Un.kept hk,⟨_,x.toInCall.ns,fun i y v h1 h2 h3=>?_⟩,fun y c h=>⟨_,x.cell y c h⟩,e0.iK.fresh (UU _),fun y c h=>?_,fun p hp=>absurd (show p∈([]:List (Addr×Obj)) from hp) (by simp),e0.iK.kept hk,?_⟩
 · exact name_of_addr x.apart (abe h1) (abe h2)
 · have hy:scope.names.lookup y=some .cell∨scope.names.lookup y=some .free:=hy
   rcases hy with hy|hy
   · exact CT hy
   · exact absurd rfl (S.MS _ (abe hy))
 · exact Nat.le_of_lt (x.above y c (abe h))
 · have hi:i<vs.length:=by
     unfold start at h2
     by_cases hi:i<vs.length
     · exact hi
     · rw[aa3 (by simpa using hi)] at h2
       rw[List.getElem?_replicate] at h2
       split at h2<;>cases h2
   have ha:vs[i]?=some v:=by
     unfold start at h2
     rw[abr (by simpa using hi),aah] at h2
     cases e:vs[i]? with
     | none=>rw[e] at h2;cases h2
     | some a=>rw[e] at h2;cases h2;rfl
   obtain⟨u,hu,rv⟩:=r.get ha
   have hp:ps[i]?=some y:=by
     rw[←S.pre,List.getElem?_take_of_lt (by omega)];exact h1
   have Yj:ps.Nodup:=by rw[←S.pre];exact S.nd.sublist (abu _ _)
   refine⟨u,rv,?_⟩
   rcases S.par y (UT hp) with k|k
   · exact .inl ⟨k,AE Yj hp hu k⟩
   · obtain⟨c,e⟩:=CT (n:=s.heap.objs.size+1) k
     refine .inr ⟨.inl k,c,e,?_⟩
     have q:=x.cell y c e
     rw[AF Yj hp hu (by show scope.names.lookup y≠_;rw[k];decide)] at q
     exact q
 · exact e0.iK.fresh (Nat.le_of_lt (x.above y c (abe h)))
 · unfold start
   show _=N.length
   rw[VJ,Ro,List.length_replicate]
   omega
theorem LW{CX:Er}{P:Program}{w:World}{K:PySem.W.Frag}{mg:Str→Option Value}{base:Heap}{k:Nat}{f:Addr}{name qual:Str}{params:Arguments}{body:List Stmt}{scope:Scope}{dV kV doc pm jL ct oc:Value}{an od:Option Addr}
   {Hy:Array (Option Value)} {N ps:List Str} {sp:Sp} (lk:K.lookup f=some ⟨oc,od,.func (PySem.W.fnOf name qual params body scope dV kV doc pm an jL ct),Hy⟩) (Bf:PySem.W.codeIn K jL qual=true) (S:gw N ps scope)
   (len:∀vs H Q E,sp vs H Q E→vs.length=ps.length)
   (D3:∀(A:Around)(outer:List Env)(s:Shared)(H:Hp)(vs:List V)(Q:VK)(E:XK),kF k (A.deeper (envOfC qual scope s.heap.objs.size f jL))→sp vs H Q E→
     ∃t,Ed (yr CX P w K mg base N qual scope f jL A outer s H E) body t∧t {nx:=fun _ H'=>Q .jx H',rt:=Q} (start N vs) H) :
   iw P w K mg base CX (k+1) f (PySem.W.fnOf name qual params body scope dV kV doc pm an jL ct) ps sp:=by
 refine⟨len,fun A outer s H args us vs Q E hr e0 hb r Kd=>?_⟩
 have hl:=len _ _ _ _ Kd
 have KX:K.In s.heap:=e0.mod.MD.keeps fun b o e=>(e0.bs b o e).1
 have lim:s.heap.NoLimit:=e0.mod.nolimit.keeps fun b o e=>(e0.bs b o e).1
 have QS:∀y∈ps.zip us,scope.names.lookup y.1=some .local∨(scope.names.lookup y.1=some .cell∧((cellsFrom (s.heap.objs.size+1) scope.names []).lookup y.1).isSome=true):=fun⟨n,v⟩ hy=>by
   rcases S.par n (List.of_mem_zip hy).1 with q|q
   · exact .inl q
   · exact .inr ⟨q,PySem.W.cellsFrom_some _ _ _ (.inl q)⟩
 refine codeAny_call_function hr.depth (KX _ _ lk) rfl S.co S.gen rfl (PySem.W.codeRec_of KX Bf) (hb _ _ _ _ ?_)
 refine wpAny_newFunctionEnv_cells S.kind QS fun env he s1 x=>?_
 subst he
 refine⟨lim.keeps x.toInCall.keep,codeAny_func ?_⟩
 obtain⟨t,ht,hq⟩:=D3 A outer s H vs Q E (hr.deeper _) Kd
 have I:Inv (yr CX P w K mg base N qual scope f jL A outer s H E) [] (start N vs) H s1:=Gv S hr.hd e0 hl r x
 refine wpAny_mono (ht [] s1 (start N vs) H _ I hq) (fun fl s' hs=>?_) fun e s' hs=>hs
 have fin:∀{σ':St} {H':Hp} {v:V} {u:Value},Inv (yr CX P w K mg base N qual scope f jL A outer s H E) [] σ' H' s'→RelV v u→Q v H'→CE outer P w H s Q u s':=
   fun{σ' H' v u} J rv q=>⟨v,H',J.os,J.bare,J.base,J.iK,rv,q⟩
 cases fl with
 | ret u=>
   obtain⟨v,σ',H',J,rv,q⟩:=hs
   exact fin J rv q
 | next=>
   obtain⟨σ',H',J,q⟩:=hs
   exact fin (v:=V.jx) (u:=Value.none) J rfl q
 | brk=>
   obtain⟨_,_,_,q⟩:=hs
   exact False.elim q
 | cont=>
   obtain⟨_,_,_,q⟩:=hs
   exact False.elim q
section
variable{X:Cx}{x:Str}{p pos:Pos}{e:Expr}{es:List Expr}{t:TA}{id T:String}{r:List V→Hp→VK→Prop}
def XR(r:List V→Hp→VK→Prop)(t:TA):TE:=fun σ H Q=>t σ H fun vs H1=>r vs H1 Q
theorem gA(hc:ub X (.builtin id) r)(hg:Gl X x)(hm:X.mg x=none)(hv:bootBuiltins x=some (.builtin id))(ha:PA X (e::es) t)(hn:x≠"__name__":=by decide)(D2:(x ==("__debug__":Str))=false:=by decide)
   (he:starEach (e::es) X.env=(false,eval e X.env)::starEach es X.env:=by rfl) (pM:(backTo pos (starEach es X.env)).any (·.1)=false:=by rfl):PE X (.Call (.Name x p) (e::es) [] pos) (XR r t):=by
 intro pins s σ H Q I h
 refine wpAny_Call_Name_kw (oO I hg hm hv ?_ hn D2)
 exact PyProof.Rows.callWith_builtin1 (i7 (ha pos pins s σ H _ I h) fun us s1 ⟨vs,H1,I1,r1,q1⟩=>hc pins s1 σ H1 vs us Q I1 r1 q1) he pM
theorem rY(hc:ub X (.type T) r)(hg:Gl X x)(hm:X.mg x=none)(hv:bootBuiltins x=some (.type T))(ha:PA X (e::es) t)(hn:x≠"__name__":=by decide)(D2:(x ==("__debug__":Str))=false:=by decide)
   (he:starEach (e::es) X.env=(false,eval e X.env)::starEach es X.env:=by rfl) (pM:(backTo pos (starEach es X.env)).any (·.1)=false:=by rfl):PE X (.Call (.Name x p) (e::es) [] pos) (XR r t):=by
 intro pins s σ H Q I h
 refine wpAny_Call_Name_kw (oO I hg hm hv ?_ hn D2)
 exact aaR (i7 (ha pos pins s σ H _ I h) fun us s1 ⟨vs,H1,I1,r1,q1⟩=>hc pins s1 σ H1 vs us Q I1 r1 q1) he pM
end
end L2
namespace HT
open PySem PyProof.Rows
section
open PySem.SeqAt
open PySem.AutoSeq1 (wpAny_loadPart')
open PySem.MeetsSeq PySem.MeetsSeq2 PySem.MeetsSeq3
end
section
variable{prog:Program}{w:World}{A:Around}{E:Value→Shared→Prop}{s:Shared}
def CD(n d:Nat):Option Int→Nat
 | none=>d
 | some v=>if v<0 then(v+(n:Int)).toNat else min v.toNat n
theorem yt(n d:Nat):CD n d none=d:=rfl
theorem Fx(n d k:Nat):CD n d (some (k:Int))=min k n:=by
 show(if(k:Int)<0 then((k:Int)+(n:Int)).toNat else min (k:Int).toNat n)=min k n
 rw[aak (by omega),abv]
end
end HT
namespace L2
open PySem PySem.Spec PyProof.Rows
abbrev TO:=St→Hp→(Option Int→Hp→Prop)→Prop
def PO(X:Cx)(e:Option Expr)(t:TO):Prop:=
 ∀(pins:List (Addr×Obj))(s:Shared)(σ:St)(H:Hp)(Q:Option Int→Hp→Prop),Inv X pins σ H s→t σ H Q→
   wpAny (model X.prog X.w) X.A (evalPart e X.env) (fun u s'=>∃o H',Inv X pins σ H' s'∧IsPart u o∧Q o H') X.xe s
def Kr:TO:=fun _ H Q=>Q none H
def P1(t:TE):TO:=fun σ H Q=>t σ H fun x H1=>∃i,x=.int i∧Q (some i) H1
section
variable{X:Cx}{e:Expr}{te:TE}{lo hi:Option Expr}{tl th:TO}{pos p2:Pos}
theorem mV:PO X none Kr:=by
 intro pins s σ H Q I h
 rw[evalPart_none]
 exact wpAny_pure ⟨none,H,I,.none,h⟩
theorem mW(h:PE X e te):PO X (some e) (P1 te):=by
 intro pins s σ H Q I hw
 rw[evalPart_some]
 refine i7 (h pins s σ H _ I hw) fun u s1 ⟨x,H1,I1,r1,q1⟩=>?_
 obtain⟨i,rfl,q⟩:=q1
 obtain⟨t,rfl⟩:=r1
 exact⟨some i,H1,I1,.int i t,q⟩
def XS(X:Cx)(r:V→Option Int→Option Int→Hp→VK→Prop):Prop:=
 ∀(pins:List (Addr×Obj))(s:Shared)(σ:St)(H:Hp)(x:V)(v vl vu:Value)(lo hi:Option Int)(sl:Addr)(Q:VK),Inv X pins σ H s→RelV x v→s.heap.IsSliceOf sl vl vu .none→IsPart vl lo→IsPart vu hi→r x lo hi H Q→
   ∃T id,typeLookup (.type T) "__getitem__"=pure (some (.builtin id))∧s.TypeIs v T∧wpAny (model X.prog X.w) X.A (getItem v (.ref sl)) (EP X pins σ Q) X.xe s
def tSl(r:V→Option Int→Option Int→Hp→VK→Prop)(te:TE)(tl th:TO):TE:=fun σ H Q=>te σ H fun x H1=>tl σ H1 fun l H2=>th σ H2 fun u H3=>r x l u H3 Q
theorem ly{r:V→Option Int→Option Int→Hp→VK→Prop}(hr:XS X r)(he:PE X e te)(hl:PO X lo tl)(hu:PO X hi th):PE X (.Subscript e (.Slice lo hi none p2) pos) (tSl r te tl th):=by
 intro pins s σ H Q I h
 refine Subscript_ (i7 (he pins s σ H _ I h) fun v s1 ⟨x,H1,I1,r1,q1⟩=>?_)
 refine wpAny_Slice (i7 (hl pins s1 σ H1 _ I1 q1) fun vl s2 ⟨l,H2,I2,pl,q2⟩=>i7 (hu pins s2 σ H2 _ I2 q2) fun vu s3 ⟨u,H3,I3,pu,q3⟩=>?_)
 rw[evalPart_none]
 refine wpAny_pure ?_
 have I4:Inv X pins σ H3 {s3 with heap:=s3.heap.push {cls:=.type "slice",data:=.fields #[vl,vu,.none]}}:=I3.kept (t':=s3.toks) fun b ob q=>Heap.get?_push_of_some _ q
 obtain⟨T,id,hT,ht,hg⟩:=hr pins {s3 with heap:=s3.heap.push {cls:=.type "slice",data:=.fields #[vl,vu,.none]}} σ H3 x v vl vu l u s3.heap.objs.size Q I4 r1 (Heap.IsSliceOf.new ..) pl pu q3
 show wpAny (model X.prog X.w) X.A (subscriptTail e (.Slice lo hi none p2) v (.ref s3.heap.objs.size)) (EP X pins σ Q) X.xe {s3 with heap:=s3.heap.push {cls:=.type "slice",data:=.fields #[vl,vu,.none]}}
 exact tail_any (ops:=[.ref s3.heap.objs.size,v]) ht hT hg (by with_unfolding_all rfl)
def sA(xs:List V)(lo hi:Option Int):List V:=(xs.drop (HT.CD xs.length 0 lo)).take (HT.CD xs.length xs.length hi-HT.CD xs.length 0 lo)
theorem CU(xs:List V)(lo hi:Option Int):(sA xs lo hi).length≤xs.length:=by
 unfold sA
 rw[aav,List.length_drop]
 omega
end
def HR(n:Nat)(i:Int):Option Nat:=if 0≤i then(if i<n then some i.toNat else none) else if -(n:Int)≤i then some (i+n).toNat else none
def CV{α:Type}(xs:List α)(i:Int):Option α:=(HR xs.length i).bind fun j=>xs[j]?
theorem Fy{n:Nat}{i:Int}{j:Nat}(h:HR n i=some j):seqIndex? i n=some j∧j<n∧-(n:Int)≤i∧i<n:=by
 unfold HR at h
 by_cases h0:0≤i
 · rw[aar h0] at h
   by_cases h1:i<n
   · rw[aar h1] at h
     have e:i.toNat=j:=aau h
     exact⟨by rw[seqIndex_of h0 h1,e],by omega,by omega,h1⟩
   · rw[aak h1] at h;cases h
 · rw[aak h0] at h
   by_cases h1:-(n:Int)≤i
   · rw[aar h1] at h
     have e:(i+n).toNat=j:=aau h
     exact⟨by rw[seqIndex_neg (by omega) h1,e],by omega,h1,by omega⟩
   · rw[aak h1] at h;cases h
theorem Bn{α:Type}{xs:List α}{i:Int}{v:α}(h:CV xs i=some v):∃j,seqIndex? i xs.length=some j∧xs[j]?=some v∧j<xs.length∧-(xs.length:Int)≤i∧i<xs.length:=by
 unfold CV at h
 cases e:HR xs.length i with
 | none=>rw[e] at h;cases h
 | some j=>
   rw[e] at h
   obtain⟨h1,h2,h3,h4⟩:=Fy e
   exact⟨j,h1,h,h2,h3,h4⟩
theorem Ks{α:Type}{xs:List α}{j:Nat}{v:α}(h:xs[j]?=some v):CV xs (j:Int)=some v:=by
 have hj:j<xs.length:=(Rt.mp h).1
 have e:HR xs.length (j:Int)=some j:=by
   unfold HR
   rw[aar (by omega),aar (by omega)];simp
 unfold CV;rw[e];exact h
theorem yu{α:Type}(xs:List α)(v:α):CV (xs++[v]) (-1)=some v:=by
 have hl:(xs++[v]).length=xs.length+1:=by simp
 have e:HR (xs++[v]).length (-1)=some xs.length:=by
   unfold HR
   rw[hl,aak (by decide),aar (by omega)]
   congr 1
   omega
 unfold CV
 rw[e]
 show(xs++[v])[xs.length]?=some v
 simp
def Kt(b:Expr):Prop:=∀o i,subscripted b false o i=operate [o,i] (getItem o i)
def SO(X:Cx)(r:R2):Prop:=
 ∀(value slice:Expr)(pins:List (Addr×Obj))(s:Shared)(σ:St)(H:Hp)(x y:V)(v u:Value)(Q:VK),Inv X pins σ H s→RelV x v→RelV y u→r x y H Q→
   subscripted slice false v u=operate [v,u] (getItem v u)→wpAny (model X.prog X.w) X.A (subscriptTail value slice v u) (EP X pins σ Q) X.xe s
def Ut(X:Cx)(id:String)(r:V→List V→Hp→VK→Prop):Prop:=
 ∀(pins:List (Addr×Obj))(s:Shared)(σ:St)(H:Hp)(x:V)(xs:List V)(v:Value)(us:List Value)(Q:VK),Inv X pins σ H s→RelV x v→Vals xs us→r x xs H Q→
   wpAny (model X.prog X.w) X.A (call (.builtin id) (v::us)) (EP X pins σ Q) X.xe s
section
variable{X:Cx}{a b:Expr}{ta tb:TE}{pos:Pos}
theorem iy{r:R2}(hr:SO X r)(ha:PE X a ta)(hb:PE X b tb)(hs:Kt b):PE X (.Subscript a b pos) (SN r ta tb):=by
 intro pins s σ H Q I h
 exact Subscript_ (ML ha hb I h fun v u s2 x y H2 I2 rx ry q=>hr a b pins s2 σ H2 x y v u Q I2 rx ry q (hs _ _))
def Uu(K:PySem.W.Frag):R2:=fun x y H Q=>∃p xs i v,x=.ref p∧y=.int i∧g_ K H p xs∧CV xs i=some v∧Q v H
def Uv(K:PySem.W.Frag):R2:=fun x y H Q=>∃p xs i v,x=.ref p∧y=.int i∧u_ K H p xs∧CV xs i=some v∧Q v H
def Uw:R2:=fun x y H Q=>∃z i c,x=.str z∧y=.int i∧z.length≤sizeLine∧CV z.cps.toList i=some c∧Q (.str ⟨#[c]⟩) H
theorem hX:SO X (Uu X.K):=by
 intro value slice pins s σ H x y v u Q I rx ry h hs
 obtain⟨p,xs,i,z,rfl,rfl,hq,he,q⟩:=h
 cases rx
 obtain⟨t,rfl⟩:=ry
 obtain⟨ia,r,pl,hz⟩:=I.list hq
 obtain⟨j,h1,h2,h3,h4,h5⟩:=Bn he
 obtain⟨w,ew,Au⟩:=r.get h2
 have hl:=r.length
 have hn:=tf
 have fin:EP X pins σ Q w s:=⟨z,H,I,Au,q⟩
 by_cases h0:0≤i
 · have hj:i.toNat=j:=by
     rw[seqIndex_of h0 h5] at h1
     exact aau h1
   exact item_listR pl.isList h0 (by omega) (by rw[hj];simpa using ew) fin hs
 · have hj:(i+(ia.toArray.size:Int)).toNat=j:=by
     rw[seqIndex_neg (by omega) h4] at h1
     rw[aag,←hl]
     exact aau h1
   exact subscriptTail_builtinR (x:=w) pl.isList.typeIs slot_list_getitem.lookup
     (wpAny_getItem_list_neg (Q:=fun r s'=>r=w∧EP X pins σ Q r s') pl.isList (by omega) (by rw[aag]<;>omega) (by omega) (by rw[hj];simpa using ew) ⟨rfl,fin⟩) hs
theorem yv:SO X (Uv X.K):=by
 intro value slice pins s σ H x y v u Q I rx ry h hs
 obtain⟨p,xs,i,z,rfl,rfl,hq,he,q⟩:=h
 cases rx
 obtain⟨t,rfl⟩:=ry
 obtain⟨ia,r,pl,hz⟩:=I.tuple hq
 obtain⟨j,h1,h2,h3,h4,h5⟩:=Bn he
 obtain⟨w,ew,Au⟩:=r.get h2
 have hl:=r.length
 have hn:=tf
 have fin:EP X pins σ Q w s:=⟨z,H,I,Au,q⟩
 exact subscriptTail_builtinR (x:=w) pl.typeIs slot_tuple_getitem.lookup
   (getItem_tuple (j:=j) (Q:=fun r s'=>r=w∧EP X pins σ Q r s') pl (by omega) (by omega) (by rw[aag,←hl];exact h1) (by simpa using ew) ⟨rfl,fin⟩) hs
theorem Eu:SO X Uw:=by
 intro value slice pins s σ H x y v u Q I rx ry h hs
 obtain⟨z,i,c,rfl,rfl,hz,he,q⟩:=h
 obtain⟨t,rfl⟩:=rx
 obtain⟨t',rfl⟩:=ry
 obtain⟨j,h1,h2,h3,h4,h5⟩:=Bn he
 have hl:z.cps.toList.length=z.length:=by simp[Str.length]
 rw[hl] at h1 h4 h5
 have hn:=tf
 exact tail_any (typeIs_str s z t) slot_str_getitem.lookup (getItem_str (c:=c) (by
   have e1:decide (i < -(2 ^ 63:Int))=false:=aaa (by omega)
   have e2:decide (i≥2 ^ 63)=false:=aaa (by omega)
   rw[e1,e2,Bool.or_false]) (by rw[h1];simpa using h2) ⟨.str ⟨#[c]⟩,H,I.tok _,⟨_,rfl⟩,q⟩) hs
theorem Ew(ia:List Value)(n j:Nat)(u:Value):Obj.mapSeq (·.setIfInBounds j u) {cls:=.type "list",data:=.seq ia.toArray n}={cls:=.type "list",data:=.seq (ia.set j u).toArray n}:=by
 simp[Obj.mapSeq]
theorem Inv.lst{pins:List (Addr×Obj)}{σ:St}{H:Hp}{s:Shared}{p:Addr}{xs:List V}(I:Inv X pins σ H s)(h:H p=some (.lst xs)) :
   ∃(ia:List Value)(n:Nat),Vals xs ia∧s.heap.get? p=some {cls:=.type "list",data:=.seq ia.toArray n}∧xs.length≤sizeLine:=by
 obtain⟨z,ia,n,r,e⟩:=I.iK p _ h
 exact⟨ia,n,r,e,z⟩
theorem Inv.MT{pins:List (Addr×Obj)}{σ:St}{H:Hp}{s:Shared}{p:Addr}{xs ys:List V}{ia its':List Value}{n n':Nat}{f:Obj→Obj}(I:Inv X pins σ H s)(h:H p=some (.lst xs))
   (ho:s.heap.get? p=some {cls:=.type "list",data:=.seq ia.toArray n}) (hf:f {cls:=.type "list",data:=.seq ia.toArray n}={cls:=.type "list",data:=.seq its'.toArray n'}) (r:Vals ys its') (hz:ys.length≤sizeLine) (t:Nat) :
   Inv X pins σ (upd H p (.lst ys)) {s with heap:=s.heap.update p f,toks:=t}:=by
 have e:(s.heap.update p f).get? p=some {cls:=.type "list",data:=.seq its'.toArray n'}:=by
   rw[Heap.get?_update_self f ho (by rw[hf]<;>rfl),hf]
 refine I.write (x:=p) (e:=p) (by rw[h];trivial) (.inl rfl) (fun b u hb q=>(Heap.get?_update_other _ _ (abq hb)).trans q) ⟨_,e⟩ ?_
 exact⟨hz,its',n',r,e⟩
def P2:V→V→V→Hp→(Hp→Prop)→Prop:=fun o i v H Q=>∃p xs k j,o=.ref p∧i=.int k∧H p=some (.lst xs)∧HR xs.length k=some j∧Q (upd H p (.lst (xs.set j v)))
theorem set_list:PL X P2:=by
 intro pins s σ H o i v ov iv u Q I ro ri rv h
 obtain⟨p,xs,k,j,rfl,rfl,hp,hj,q⟩:=h
 cases ro
 obtain⟨t,rfl⟩:=ri
 obtain⟨ia,n,r,ho,hz⟩:=I.lst hp
 obtain⟨h1,h2,h3,h4⟩:=Fy hj
 have hl:=r.length
 have hn:=tf
 have I':Inv X pins σ (upd H p (.lst (xs.set j v))) {s with heap:=s.heap.update p (Obj.mapSeq (·.setIfInBounds j u))}:=
   I.MT hp ho (Ew ia n j u) (r.set rv j) (by rw[abV];exact hz) s.toks
 by_cases h0:0≤k
 · have hk:k.toNat=j:=by
     rw[seqIndex_of h0 h4] at h1
     exact aau h1
   exact PySem.W.ki_setAt ho h0 (by omega) (by rw[aag,←hl];exact h4) (by rw[hk];exact⟨_,I',q⟩)
 · have hk:(k+(ia.toArray.size:Int)).toNat=j:=by
     rw[seqIndex_neg (by omega) h3] at h1
     rw[aag,←hl]
     exact aau h1
   exact PySem.W.ki_setBack ho (by omega) (by rw[aag,←hl];exact h3) (by omega) (by rw[hk];exact⟨_,I',q⟩)
theorem Bo(lo hi:Option Int)(n:Nat):(sliceBounds lo hi none n).1=((HT.CD n 0 lo:Nat):Int)∧(sliceBounds lo hi none n).2.1=((HT.CD n n hi:Nat):Int)∧(sliceBounds lo hi none n).2.2=1:=by
 refine⟨?_,?_,rfl⟩
 · cases lo with
   | none=>simp[sliceBounds,HT.CD]
   | some i=>
     simp only [sliceBounds,HT.CD,Option.getD_none,show(1:Int)>0 by decide,if_true]
     by_cases h:i<0
     · simp only [h,if_true]<;>omega
     · simp only [h,abJ]<;>omega
 · cases hi with
   | none=>simp[sliceBounds,HT.CD]
   | some i=>
     simp only [sliceBounds,HT.CD,Option.getD_none,show(1:Int)>0 by decide,if_true]
     by_cases h:i<0
     · simp only [h,if_true]<;>omega
     · simp only [h,abJ]<;>omega
theorem z_(ia:List Value)(lo hi:Option Int):slicePick ia.toArray lo hi none=((ia.drop (HT.CD ia.length 0 lo)).take (HT.CD ia.length ia.length hi-HT.CD ia.length 0 lo)).toArray:=by
 obtain⟨h1,h2,h3⟩:=Bo lo hi ia.toArray.size
 unfold slicePick
 rw[h1,h2,h3]
 simp only [sliceRange_one,pick_run,aag]<;>rfl
def Ux(K:PySem.W.Frag):V→Option Int→Option Int→Hp→VK→Prop:=fun x lo hi H Q=>∃a xs,x=.ref a∧g_ K H a xs∧∀p,H p=none→Q (.ref p) (upd H p (.lst (sA xs lo hi)))
theorem mX:XS X (Ux X.K):=by
 intro pins s σ H x v vl vu lo hi sl Q I rx hs pl pu h
 obtain⟨a,xs,rfl,hx,q⟩:=h
 cases rx
 obtain⟨ia,r,ht,hz⟩:=I.list hx
 have hlen:=r.length
 refine⟨"list",_,slot_list_getitem.lookup,ht.isList.typeIs,?_⟩
 refine wpAny_getItem_list_slice ht.isList hs pl pu .none (by simp) ?_ (by rw[aag]<;>omega)
 rw[z_,←hlen]
 refine⟨.ref s.heap.objs.size,_,I.laid (t':=s.toks) (o:=.lst (sA xs lo hi)) (fun b ob q=>Heap.get?_push_of_some _ q) (UU _) ?_,rfl,q _ (I.iK.fresh (UU _))⟩
 exact⟨aab (CU xs lo hi) hz,_,0,(r.drop (HT.CD xs.length 0 lo)).take (HT.CD xs.length xs.length hi-HT.CD xs.length 0 lo),Heap.get?_push_size _ rfl⟩
def lA:V→Bool
 | .jx=>true
 | .bl _=>true
 | .int _=>true
 | .str _=>true
 | _=>false
def Gw:V→V→Bool
 | .jx,.jx=>true
 | .bl a,.bl b=>a ==b
 | .bl a,.int b=>(if a then 1 else 0) ==b
 | .int a,.bl b=>a ==(if b then 1 else 0)
 | .int a,.int b=>a ==b
 | .str a,.str b=>a ==b
 | _,_=>false
theorem HS{A:Around}{s:Shared}{y x:V}{u v:Value}(ry:RelV y u)(rx:RelV x v)(fy:lA y=true)(fx:lA x=true):SeqAt.EqAt A s u v (Gw y x):=by
 cases y with
 | jx=>
   cases ry
   cases x with
   | jx=>cases rx;exact SeqAt.EqAt.same _
   | bl b=>cases rx;exact SeqAt.EqAt.none_bool b
   | int b=>obtain⟨t,rfl⟩:=rx;exact SeqAt.EqAt.none_int b t
   | str b=>obtain⟨t,rfl⟩:=rx;exact SeqAt.EqAt.none_str b t
   | _=>exact absurd (show false=true from fx) aad
 | bl a=>
   cases ry
   cases x with
   | jx=>cases rx;exact SeqAt.EqAt.bool_none a
   | bl b=>cases rx;exact SeqAt.EqAt.bool_bool a b
   | int b=>obtain⟨t,rfl⟩:=rx;exact SeqAt.EqAt.bool_int a b t
   | str b=>obtain⟨t,rfl⟩:=rx;exact SeqAt.EqAt.bool_str a b t
   | _=>exact absurd (show false=true from fx) aad
 | int a=>
   obtain⟨t',rfl⟩:=ry
   cases x with
   | jx=>cases rx;exact SeqAt.EqAt.int_none a t'
   | bl b=>cases rx;exact SeqAt.EqAt.int_bool a t' b
   | int b=>obtain⟨t,rfl⟩:=rx;exact SeqAt.EqAt.int_int a t' b t
   | str b=>obtain⟨t,rfl⟩:=rx;exact SeqAt.EqAt.int_str a t' b t
   | _=>exact absurd (show false=true from fx) aad
 | str a=>
   obtain⟨t',rfl⟩:=ry
   cases x with
   | jx=>cases rx;exact SeqAt.EqAt.str_none a t'
   | bl b=>cases rx;exact SeqAt.EqAt.str_bool a t' b
   | int b=>obtain⟨t,rfl⟩:=rx;exact SeqAt.EqAt.str_int a t' b t
   | str b=>obtain⟨t,rfl⟩:=rx;exact SeqAt.EqAt.str_str a t' b t
   | _=>exact absurd (show false=true from fx) aad
 | _=>exact absurd (show false=true from fy) aad
def Ku(x:V)(u:Value):Bool:=match u with
 | .none=>Gw .jx x
 | .bool b=>Gw (.bl b) x
 | .int i _=>Gw (.int i) x
 | .str z _=>Gw (.str z) x
 | _=>false
theorem HU{x y:V}{u:Value}(r:RelV y u)(f:lA y=true):Ku x u=Gw y x:=by
 cases y with
 | jx=>cases r;rfl
 | bl b=>cases r;rfl
 | int i=>obtain⟨t,rfl⟩:=r;rfl
 | str z=>obtain⟨t,rfl⟩:=r;rfl
 | _=>exact absurd (show false=true from f) aad
theorem Bp{x:V}:∀{xs:List V} {us:List Value},Vals xs us→xs.all lA=true→us.any (Ku x)=xs.any fun y=>Gw y x
 | _,_,.nil,_=>rfl
 | y::xs,u::us,.cons r t,f=>by
   rw[List.all_cons,aaX] at f
   rw[List.any_cons,List.any_cons,HU r f.1,Bp t f.2]
theorem yw{A:Around}{s:Shared}{x:V}{v:Value}(rx:RelV x v)(fx:lA x=true):∀{xs:List V} {us:List Value},Vals xs us→xs.all lA=true→∀u∈us,SeqAt.EqAt A s u v (Ku x u)
 | _,_,.nil,_=>fun u hu=>by cases hu
 | y::xs,u::us,.cons r t,f=>fun u' hu=>by
   rw[List.all_cons,aaX] at f
   rcases XY.mp hu with rfl|hu
   · rw[HU r f.1];exact HS r rx f.1 fx
   · exact yw rx fx t f.2 u' hu
def MU(x:V)(xs:List V):Bool:=xs.any fun y=>Gw y x
def rIn(K:PySem.W.Frag)(neg:Bool):R2:=fun x y H Q=>∃p xs,y=.ref p∧(g_ K H p xs∨u_ K H p xs)∧lA x=true∧xs.all lA=true∧Q (.bl (if neg then !MU x xs else MU x xs)) H
theorem AG:wu X (compareOp .In) (rIn X.K false):=by
 intro pins s σ H x y v u Q I rx ry h
 obtain⟨p,xs,rfl,hq,fx,fs,q⟩:=h
 cases ry
 rcases hq with hq|hq
 · obtain⟨ia,r,pl,hz⟩:=I.list hq
   refine SeqAt.in_listAt (Ku x) pl.isList (fun w hw=>yw rx fx r fs w (by simpa using hw)) ⟨.bl _,H,I,rfl,?_⟩
   rw[show ia.toArray.any (Ku x)=ia.any (Ku x) by simp,Bp r fs]
   exact q
 · obtain⟨ia,r,pl,hz⟩:=I.tuple hq
   refine SeqAt.in_tupleAt (Ku x) pl (fun w hw=>yw rx fx r fs w (by simpa using hw)) ⟨.bl _,H,I,rfl,?_⟩
   rw[show ia.toArray.any (Ku x)=ia.any (Ku x) by simp,Bp r fs]
   exact q
theorem gm:ub X (.builtin "len") (fun xs H Q=>∃p ys,xs=[.ref p]∧(g_ X.K H p ys∨u_ X.K H p ys)∧Q (.int ys.length) H):=by
 intro pins s σ H xs us Q I r h
 obtain⟨p,ys,rfl,hq,q⟩:=h
 obtain⟨u,rfl,rx⟩:=vals1 r
 cases rx
 have hn:=tf
 rcases hq with hq|hq
 · obtain⟨ia,r',pl,hz⟩:=I.list hq
   have hlen:=r'.length
   exact Calls.call_len_list pl.isList (by simp only [aag]<;>omega) ⟨.int ys.length,H,I.tok _,⟨s.toks+1,by rw[aag,hlen]⟩,q⟩
 · obtain⟨ia,r',pl,hz⟩:=I.tuple hq
   have hlen:=r'.length
   exact len_tuple pl (by simp only [aag]<;>omega) ⟨.int ys.length,H,I.tok _,⟨s.toks+1,by rw[aag,hlen]⟩,q⟩
theorem uf:ub X (.builtin "len") (fun xs H Q=>∃z,xs=[.str z]∧z.length≤sizeLine∧Q (.int z.length) H):=by
 intro pins s σ H xs us Q I r h
 obtain⟨z,rfl,hz,q⟩:=h
 obtain⟨u,rfl,t,rfl⟩:=vals1 r
 have hn:=tf
 exact len_str (by omega) ⟨.int z.length,H,I.tok _,⟨_,rfl⟩,q⟩
theorem ug:ub X (.type "list") (fun xs H Q=>∃p ys,xs=[.ref p]∧(g_ X.K H p ys∨u_ X.K H p ys)∧∀l,H l=none→Q (.ref l) (upd H l (.lst ys))):=by
 intro pins s σ H xs us Q I r h
 obtain⟨p,ys,rfl,hq,q⟩:=h
 obtain⟨u,rfl,rx⟩:=vals1 r
 cases rx
 have fin:∀(ia:List Value),Vals ys ia→ys.length≤sizeLine→∀(h':Heap)(c':Nat),(∀b o',s.heap.get? b=some o'→h'.get? b=some o')→
     h'.get? s.heap.objs.size=some {cls:=.type "list",dict:=none,data:=.seq ia.toArray c',slots:=#[]}→EP X pins σ Q (.ref s.heap.objs.size) {s with heap:=h'}:=fun ia r' hz h' c' kp e=>
   ⟨.ref s.heap.objs.size,_,I.laid (t':=s.toks) kp (UU _) (show i8 X.prog X.w _ h' _ (.lst ys) from ⟨hz,ia,c',r',e⟩),rfl,q _ (I.iK.fresh (UU _))⟩
 rcases hq with hq|hq
 · obtain⟨ia,r',pl,hz⟩:=I.list hq
   have hlen:=r'.length
   obtain⟨o,ho,hc,n,hd⟩:=pl.isList
   exact call_list_seq p (.inl rfl) ho hc hd (fun h' c' kp e=>fin ia r' hz h' c' kp e) (by simp only [aag]<;>omega)
 · obtain⟨ia,r',pl,hz⟩:=I.tuple hq
   have hlen:=r'.length
   obtain⟨o,ho,hc,n,hd⟩:=pl
   exact call_list_seq p (.inr rfl) ho hc hd (fun h' c' kp e=>fin ia r' hz h' c' kp e) (by simp only [aag]<;>omega)
def Uy(K:PySem.W.Frag)(T:String)(x:V)(H:Hp):Prop:=match x with
 | .str _=>T="str"
 | .int _=>T="int"
 | .ref p=>(T="list"∧∃xs,g_ K H p xs)∨(T="tuple"∧∃o,K.lookup p=some o∧o.cls=.type "tuple"∧o.dict=none)∨
     (T="dict"∧((∃kvs,H p=some (.dK kvs))∨∃kvs,H p=some (.dT kvs)))∨(T="set"∧∃S n,H p=some (.set S n))
 | _=>False
theorem HV{pins:List (Addr×Obj)}{σ:St}{H:Hp}{s:Shared}{T:String}{x:V}{v:Value}(I:Inv X pins σ H s)(r:RelV x v)(ty:Uy X.K T x H) :
   s.TypeIs v T∧∀a,v=.ref a→∃ob,s.heap.get? a=some ob∧ob.dict=none:=by
 cases x with
 | str z=>
   obtain⟨t,rfl⟩:=r
   cases (show T="str" from ty)
   exact⟨typeIs_str s z t,fun _ e=>nomatch e⟩
 | int i=>
   obtain⟨t,rfl⟩:=r
   cases (show T="int" from ty)
   exact⟨typeIs_int s i t,fun _ e=>nomatch e⟩
 | ref p=>
   cases r
   rcases ty with⟨rfl,xs,hq⟩|⟨rfl,o,hk,hc,hd⟩|⟨rfl,hk⟩|⟨rfl,S,n,hk⟩
   · obtain⟨ia,_,pl,_⟩:=I.list hq
     refine⟨pl.isList.typeIs,fun a e=>?_⟩
     cases e
     obtain⟨o,n,e,c,hd,_⟩:=pl
     exact⟨o,e,hd⟩
   · refine⟨⟨o,I.tZ p o hk,hc⟩,fun a e=>?_⟩
     cases e
     exact⟨o,I.tZ _ o hk,hd⟩
   · have z:∃o,s.heap.get? p=some o∧o.ExactDict:=by
       rcases hk with⟨kvs,hk⟩|⟨kvs,hk⟩
       · obtain⟨_,_,_,_,o,_,_,e,ex,_⟩:=I.iK p _ hk
         exact⟨o,e,ex⟩
       · obtain⟨_,_,_,_,o,_,_,e,ex,_⟩:=I.iK p _ hk
         exact⟨o,e,ex⟩
     obtain⟨o,e,ex⟩:=z
     refine⟨⟨o,e,ex.1⟩,fun a e2=>?_⟩
     cases e2
     exact⟨o,e,ex.2.1⟩
   · obtain⟨o,_,_,_,e,ex,_⟩:=I.iK p _ hk
     refine⟨⟨o,e,ex.1⟩,fun a e2=>?_⟩
     cases e2
     exact⟨o,e,ex.2.1⟩
 | _=>exact False.elim ty
def Uz(K:PySem.W.Frag)(T:String)(r:V→List V→Hp→VK→Prop)(to:TE):TE:=fun σ H Q=>to σ H fun x H1=>Uy K T x H1∧r x [] H1 Q
def tBM(K:PySem.W.Frag)(T:String)(r:V→List V→Hp→VK→Prop)(to:TE)(t:TA):TE:=fun σ H Q=>to σ H fun x H1=>Uy K T x H1∧t σ H1 fun xs H2=>r x xs H2 Q
variable{o e:Expr}{es:List Expr}{to:TE}{t:TA}{name:Str}{apos kQ:Pos}{T id:String}{r:V→List V→Hp→VK→Prop}
theorem MV(pa:PlainAttrs T)(slot:Slot T name id)(QT:typeOf (.builtin id)=pure (.type "method_descriptor"))(hm:Ut X id r)(ho:PE X o to)
   (JI:attributeBase o name X.env (eval o X.env)=eval o X.env:=by rfl) (JJ:(apos.endLine ==kQ.line)=true:=by rfl):PE X (.Call (.Attribute o name apos) [] [] kQ) (Uz X.K T r to):=by
 intro pins s σ H Q I h
 refine wpAny_Call_method0_late JI JJ (i7 (ho pins s σ H _ I h) fun v s1 ⟨x,H1,I1,r1,ty,q1⟩=>?_)
 obtain⟨h1,h2⟩:=HV I1 r1 ty
 exact⟨T,id,pa,slot,QT,h1,h2,Calls.callWith_builtin rfl (PySem.evalArgs_none (hm pins s1 σ H1 x [] v [] Q I1 r1 .nil q1))⟩
theorem qA(pa:PlainAttrs T)(slot:Slot T name id)(QT:typeOf (.builtin id)=pure (.type "method_descriptor"))(hm:Ut X id r)(ho:PE X o to)(ha:PA X (e::es) t)
   (JI:attributeBase o name X.env (eval o X.env)=eval o X.env:=by rfl)
   (Ve:((backTo kQ (starEach (e::es) X.env)).all (fun x=>!x.1)&&(backToKw kQ (keywordEach [] X.env)).all (fun x=>x.1.isSome)
     &&decide ((e::es).length+([]:List Keyword).length+(if([]:List Keyword).isEmpty then 0 else 1)<30))=true:=by rfl)
   (JJ:(apos.endLine ==kQ.line)=true:=by rfl) (hs:starEach (e::es) X.env=(false,eval e X.env)::starEach es X.env:=by rfl) (Oc:(backTo kQ (starEach es X.env)).any (·.1)=false:=by rfl) :
   PE X (.Call (.Attribute o name apos) (e::es) [] kQ) (tBM X.K T r to t):=by
 intro pins s σ H Q I h
 refine wpAny_Call_method_late JI Ve JJ rfl (i7 (ho pins s σ H _ I h) fun v s1 ⟨x,H1,I1,r1,ty,q1⟩=>?_)
 obtain⟨h1,h2⟩:=HV I1 r1 ty
 refine⟨T,id,pa,slot,QT,h1,h2,?_⟩
 have hA:=ha kQ pins s1 σ H1 _ I1 q1
 rw[hs] at hA ⊢
 refine Calls.callWith_builtin (by show(false||(backTo kQ (starEach es X.env)).any (·.1))=false;rw[Oc]<;>rfl) (Calls.evalArgs_plain ?_)
 exact i7 hA fun us s2 ⟨vs,H2,I2,r2,q2⟩=>hm pins s2 σ H2 x vs v us Q I2 r1 r2 q2
end
def UA(X:Cx)(id:String)(r:V→List V→Hp→VK→Prop):Prop:=
 ∀(pins:List (Addr×Obj))(s:Shared)(σ:St)(H:Hp)(x:V)(xs:List V)(v:Value)(us:List Value)(Q:VK),Inv X pins σ H s→RelV x v→Vals xs us→r x xs H Q→
   wpAny (model X.prog X.w) X.A (call (.builtin id) (v::us)) (EP X pins σ Q) X.xe s
theorem Vals.one:∀{x:V} {us:List Value},Vals [x] us→∃u,us=[u]∧RelV x u
 | _,_,.cons r .nil=>⟨_,rfl,r⟩
theorem Vals.zero:∀{us:List Value},Vals [] us→us=[]
 | _,.nil=>rfl
theorem Vals.dropLast{xs:List V}{us:List Value}(h:Vals xs us):Vals xs.dropLast us.dropLast:=by
 induction h with
 | nil=>exact .nil
 | cons r t ih=>
   cases t with
   | nil=>exact .nil
   | cons q t'=>exact .cons r ih
theorem Vals.rep{xs:List V}{us:List Value}(h:Vals xs us):∀k:Nat,Vals (List.replicate k xs).flatten (List.replicate k us).flatten
 | 0=>.nil
 | k+1=>by
   rw[aa1,aa1,abw,abw]
   exact Vals.append h (Vals.rep h k)
theorem Ex{α:Type}(l:List α):l.eraseIdx (l.length-1)=l.dropLast:=by
 induction l with
 | nil=>rfl
 | cons a r ih=>
   cases r with
   | nil=>rfl
   | cons b r=>
     have e:(a::b::r).length-1=((b::r).length-1)+1:=by
       have h1:(a::b::r).length=r.length+2:=rfl
       have h2:(b::r).length=r.length+1:=rfl
       omega
     rw[e,List.eraseIdx_cons_succ,ih]
     all_goals rfl
theorem foldl_rep(ia:List Value):∀(k:Nat)(acc:List Value),
   List.foldl (fun x1 x2=>x1++x2) acc.toArray (List.replicate k ia.toArray)=(acc++(List.replicate k ia).flatten).toArray
 | 0,acc=>by simp
 | k+1,acc=>by
   have e:acc.toArray++ia.toArray=(acc++ia).toArray:=by simp
   have e2:(acc++ia)++(List.replicate k ia).flatten=acc++(List.replicate (k+1) ia).flatten:=by
     rw[aa1,abw,aaM]
   rw[←e2,←foldl_rep ia k (acc++ia),←e,aa1,List.foldl_cons]
section
variable{X:Cx}{pins:List (Addr×Obj)}{σ:St}{H:Hp}{s:Shared}{l b:Addr}{xs ys zs:List V}
theorem Inv.MW{ia its':List Value}{n:Nat}{f:Array Value→Array Value}{t':Nat}(I:Inv X pins σ H s)(hH:H l=some (.lst xs))
   (e:s.heap.get? l=some {cls:=.type "list",data:=.seq ia.toArray n}) (hf:f ia.toArray=its'.toArray) (hv:Vals ys its') (hz:ys.length≤sizeLine) :
   Inv X pins σ (upd H l (.lst ys)) {s with heap:=s.heap.update l (Obj.mapSeq f),toks:=t'}:=by
 have q:=PySem.IsL.update e f
 rw[hf] at q
 refine I.write (x:=l) (e:=l) (by rw[hH];exact trivial) (.inl rfl) (fun b' u hb hu=>(Heap.get?_update_other s.heap (Obj.mapSeq f) (abq hb)).trans hu) ⟨_,q⟩ ?_
 exact⟨hz,its',_,hv,q⟩
theorem Inv.Kv{ia:List Value}{t':Nat}(I:Inv X pins σ H s)(hv:Vals ys ia)(hz:ys.length≤sizeLine) :
   Inv X pins σ (upd H s.heap.objs.size (.lst ys)) {s with heap:=s.heap.push {cls:=.type "list",data:=.seq ia.toArray},toks:=t'}:=
 I.laid (fun _ _ q=>Heap.get?_push_of_some _ q) (UU _) ⟨hz,ia,0,hv,Heap.get?_push_size _ rfl⟩
theorem Inv.fresh(I:Inv X pins σ H s):H s.heap.objs.size=none:=I.iK.fresh (UU _)
theorem Inv.Ey(I:Inv X pins σ H s)(hH:H l=some (.lst xs)):xs.length≤sizeLine∧∃(ia:List Value)(n:Nat),Vals xs ia∧xs.length=ia.length∧s.heap.get? l=some {cls:=.type "list",data:=.seq ia.toArray n}:=by
 obtain⟨z,ia,n,r,e⟩:=I.iK l _ hH
 exact⟨z,ia,n,r,r.length,e⟩
theorem CW{n:Nat}(h:n≤sizeLine):Builtin.List.listTooLong n=false:=by
 unfold Builtin.List.listTooLong
 exact aaa (by omega)
end
section
variable{X:Cx}
def Kw:V→List V→Hp→VK→Prop:=fun x vs H Q=>∃l xs y,x=.ref l∧vs=[y]∧H l=some (.lst xs)∧xs.length<sizeLine∧Q .jx (upd H l (.lst (xs++[y])))
theorem kG:UA X "list.append" Kw:=by
 intro pins s σ H x vs v us Q I rx rv h
 obtain⟨l,xs,y,rfl,rfl,hH,hz,q⟩:=h
 cases rx
 obtain⟨u,rfl,ru⟩:=rv.one
 obtain⟨z,ia,n,r,hl,e⟩:=I.Ey hH
 refine call_meets F.slot_list_append ⟨_,e,rfl⟩ F.entry_list_append (F.args_list_append_2 _ _) (PySem.list_append l ia.toArray n u (by rw[aag];omega)) ⟨e,?_⟩
 refine⟨.jx,_,I.MW (its':=ia++[u]) hH e (by simp) (r.append (.cons ru .nil)) ?_,rfl,q⟩
 rw[VJ,List.length_singleton]
 omega
def Kx:V→List V→Hp→VK→Prop:=fun x vs H Q=>∃l b xs zs,x=.ref l∧vs=[.ref b]∧H l=some (.lst xs)∧H b=some (.lst zs)∧xs.length+zs.length≤sizeLine∧Q .jx (upd H l (.lst (xs++zs)))
theorem AH:UA X "list.extend" Kx:=by
 intro pins s σ H x vs v us Q I rx rv h
 obtain⟨l,b,xs,zs,rfl,rfl,hH,hB,hz,q⟩:=h
 cases rx
 obtain⟨u,rfl,ru⟩:=rv.one
 cases ru
 obtain⟨z,ia,n,r,hl,e⟩:=I.Ey hH
 obtain⟨z2,lQ,n2,r2,JK,e2⟩:=I.Ey hB
 have hsz:ia.toArray.size+lQ.toArray.size≤sizeLine:=by rw[aag,aag];omega
 have JL:¬(!ia.toArray.isEmpty&&Builtin.List.listTooLong (ia.toArray.size+lQ.toArray.size))=true:=by
   rw[CW hsz,Bool.and_false]
   exact aad
 refine call_meets F.slot_list_extend ⟨_,e,rfl⟩ F.entry_list_extend (F.args_list_extend_2 _ _)
   (AutoSeq1.list_extend_list_list_0 l ia.toArray n b lQ.toArray n2 JL (by rw[aag];omega) (by omega)) ⟨e,e2,?_⟩
 refine⟨.jx,_,I.MW (its':=ia++lQ) hH e (by simp) (r.append r2) ?_,rfl,q⟩
 rw[VJ]
 omega
def UB:V→List V→Hp→VK→Prop:=fun x vs H Q=>∃l xs y,x=.ref l∧vs=[]∧H l=some (.lst xs)∧xs[xs.length-1]?=some y∧Q y (upd H l (.lst xs.dropLast))
theorem MX:UA X "list.pop" UB:=by
 intro pins s σ H x vs v us Q I rx rv h
 obtain⟨l,xs,y,rfl,rfl,hH,hy,q⟩:=h
 cases rx
 have hus:=rv.zero
 subst hus
 obtain⟨z,ia,n,r,hl,e⟩:=I.Ey hH
 obtain⟨u,hu,ru⟩:=r.get hy
 have S6:ia.toArray[ia.toArray.size-1]?=some u:=by
   show ia.toArray[ia.length-1]?=some u
   rw[←aaZ,←hl]
   exact hu
 refine call_meets F.slot_list_pop ⟨_,e,rfl⟩ F.entry_list_pop (F.args_list_pop_1 _) (MeetsSeq.list_pop_last l ia.toArray n u S6 (by rw[aag];omega)) ⟨e,?_⟩
 refine⟨y,_,I.MW (its':=ia.dropLast) hH e ?_ r.dropLast ?_,ru,q⟩
 · show ia.toArray.eraseIdxIfInBounds (ia.toArray.size-1)=ia.dropLast.toArray
   rw[aag,List.eraseIdxIfInBounds_toArray,Ex]
 · rw[List.length_dropLast]
   omega
def UC:R2:=fun x y H Q=>∃l b xs zs,x=.ref l∧y=.ref b∧H l=some (.lst xs)∧H b=some (.lst zs)∧xs.length+zs.length≤sizeLine∧∀p,H p=none→Q (.ref p) (upd H p (.lst (xs++zs)))
theorem mw:wu X (binaryOp .Add) UC:=by
 intro pins s σ H x y v u Q I rx ry h
 obtain⟨l,b,xs,zs,rfl,rfl,hH,hB,hz,q⟩:=h
 cases rx
 cases ry
 obtain⟨z,ia,n,r,hl,e⟩:=I.Ey hH
 obtain⟨z2,lQ,n2,r2,JK,e2⟩:=I.Ey hB
 refine PySem.P.add_list e e2 ?_ (by rw[aag,aag];omega)
 have ea:ia.toArray++lQ.toArray=(ia++lQ).toArray:=by simp
 rw[ea]
 exact⟨.ref _,_,I.Kv (t':=s.toks) (r.append r2) (by rw[VJ];omega),rfl,q _ I.fresh⟩
def UD:R2:=fun x y H Q=>∃l k xs,x=.ref l∧y=.int k∧H l=some (.lst xs)∧-(2 ^ 63)≤k∧k<2 ^ 63∧xs.length*k.toNat≤sizeLine∧
 ∀p,H p=none→Q (.ref p) (upd H p (.lst (List.replicate k.toNat xs).flatten))
theorem len_rep{α:Type}(xs:List α)(k:Nat):(List.replicate k xs).flatten.length=k*xs.length:=by
 induction k with
 | zero=>simp
 | succ k ih=>rw[aa1,abw,VJ,ih,Nat.succ_mul,Nat.add_comm]
theorem Ez:wu X (binaryOp .Mult) UD:=by
 intro pins s σ H x y v u Q I rx ry h
 obtain⟨l,k,xs,rfl,rfl,hH,h1,h2,hz,q⟩:=h
 cases rx
 obtain⟨t,rfl⟩:=ry
 obtain⟨z,ia,n,r,hl,e⟩:=I.Ey hH
 have hlen:ia.toArray.size*k.toNat≤sizeLine:=by rw[aag,←hl];exact hz
 have Vf:¬ia.toArray.size*k.toNat>(2 ^ 63-1)/8:=by
   have:(sizeLine:Nat)≤(2 ^ 63-1)/8:=by decide
   omega
 have Vg:¬(!Builtin.List.listFitsIndex k)=true:=by
   rw[fitsIndex_both h1 h2]
   exact aad
 have JL:¬Builtin.List.listTooLong (ia.toArray.size*k.toNat)=true:=by
   rw[CW hlen]
   exact aad
 have Vh:List.foldl (fun x1 x2=>x1++x2) #[] (List.replicate (if ia.toArray.isEmpty=true then 0 else k.toNat) ia.toArray)=(List.replicate k.toNat ia).flatten.toArray:=by
   have f0:∀m:Nat,List.foldl (fun x1 x2=>x1++x2) #[] (List.replicate m ia.toArray)=(List.replicate m ia).flatten.toArray:=fun m=>by
     have:=foldl_rep ia m []
     rw[List.nil_append] at this
     exact this
   rw[f0]
   cases ia with
   | nil=>simp
   | cons a r'=>rw[aak (by simp)]
 refine wpAny_binaryOp_repeat_ref (T:="list") (U:="int") (by decide) ⟨_,e,rfl⟩ (fun s'=>typeIs_int s' k t) noFill_list_mul F.fills_int_mul F.slot_int_rmul repeat_list F.slot_int_index.lookup
   (call_meets F.slot_int_rmul (typeIs_int s k t) F.entry_int_rmul (F.args_int_rmul_2 _ _) (int___rmul___int_list k t l ia.toArray n)
     ⟨e,rfl,⟨_,e,rfl⟩,call_meets F.slot_list_mul ⟨_,e,rfl⟩ F.entry_list_mul (F.args_list_mul_2 _ _) (AutoListH.list___mul___list_int_3 l ia.toArray n k t Vg Vf JL) ⟨e,?_⟩⟩)
 rw[Vh]
 exact⟨.ref _,_,I.Kv (t':=s.toks) (r.rep k.toNat) (by rw[len_rep,Nat.mul_comm];exact hz),rfl,q _ I.fresh⟩
end
section
variable{prog:Program}{w:World}{A:Around}{E:Value→Shared→Prop}{s:Shared}
end
section
variable{X:Cx}
end
section
variable{κ:Type}[DecidableEq κ]
def iS(kvs:List (κ×V))(k:κ):Option V:=(kvs.find? fun kv=>decide (kv.1=k)).map (·.2)
def putK(kvs:List (κ×V))(k:κ)(v:V):List (κ×V):=
 if(kvs.any fun kv=>decide (kv.1=k))=true then kvs.map (fun kv=>if kv.1=k then(kv.1,v) else kv) else kvs++[(k,v)]
def jT(kvs:List (κ×V))(k:κ):List (κ×V):=kvs.filter fun kv=>decide (kv.1≠k)
theorem jm{p:κ×V}{r:List (κ×V)}{k:κ}(e:p.1=k):iS (p::r) k=some p.2:=by simp[iS,abM,e]
theorem jg{p:κ×V}{r:List (κ×V)}{k:κ}(e:¬p.1=k):iS (p::r) k=iS r k:=by simp[iS,abM,e]
theorem qR(k:κ):∀kvs:List (κ×V),(kvs.any fun kv=>decide (kv.1=k))=(iS kvs k).isSome
 | []=>rfl
 | p::r=>by
   rw[List.any_cons]
   by_cases e:p.1=k
   · simp only [jm e,VE e,Bool.true_or,Option.isSome_some]
   · rw[jg e,aaa e,Bool.false_or];exact qR k r
theorem CY(k j:κ)(y:V):∀kvs:List (κ×V),iS (kvs.map fun kv=>if kv.1=k then(kv.1,y) else kv) j=(iS kvs j).map fun x=>if j=k then y else x
 | []=>rfl
 | p::r=>by
   have ih:=CY k j y r
   rw[aas]
   by_cases h:p.1=k
   · rw[aar h]
     by_cases e:p.1=j
     · rw[jm (p:=(p.1,y)) e,jm e,abN,aar (e.symm.trans h)]
     · rw[jg (p:=(p.1,y)) e,jg e,ih]
   · rw[aak h]
     by_cases e:p.1=j
     · rw[jm (p:=p) e,jm e,abN,aak (fun z=>h (e.trans z))]
     · rw[jg (p:=p) e,jg e,ih]
theorem AI(k j:κ)(y:V):∀kvs:List (κ×V),iS kvs k=none→iS (kvs++[(k,y)]) j=if j=k then some y else iS kvs j
 | [],_=>by
   by_cases e:k=j
   · rw[aar e.symm];exact jm (p:=(k,y)) e
   · rw[aak (fun z=>e z.symm)];exact jg (p:=(k,y)) e
 | p::r,hn=>by
   rw[List.cons_append]
   have hk:¬p.1=k:=fun z=>by rw[jm z] at hn;cases hn
   rw[jg hk] at hn
   have ih:=AI k j y r hn
   by_cases e:p.1=j
   · rw[jm e,jm e,aak (fun z=>hk (e.trans z))]
   · rw[jg e,jg e,ih]
theorem j8(kvs:List (κ×V))(k j:κ)(y:V):iS (putK kvs k y) j=if j=k then some y else iS kvs j:=by
 unfold putK
 by_cases a:(kvs.any fun kv=>decide (kv.1=k))=true
 · rw[aar a,CY]
   rw[qR] at a
   by_cases e:j=k
   · obtain⟨x,hx⟩:=Option.isSome_iff_exists.mp a
     rw[aar e,e,hx,abN,aar rfl]
   · rw[aak e]
     cases iS kvs j with
     | none=>rfl
     | some x=>rw[abN,aak e]
 · rw[aak a]
   refine AI k j y kvs ?_
   rw[qR] at a
   cases q:iS kvs k with
   | none=>rfl
   | some x=>rw[q] at a;exact(a rfl).elim
theorem jv(kvs:List (κ×V))(k:κ)(v:V):(putK kvs k v).length≤kvs.length+1:=by
 unfold putK
 split
 · rw[Ro];omega
 · rw[VJ,aae,List.length_nil];omega
theorem CZ{kvs:List (κ×V)}{k:κ}(v:V)(h:iS kvs k=none):putK kvs k v=kvs++[(k,v)]:=by
 unfold putK
 rw[qR,h]
 exact aak (by decide)
theorem o3.o5{o:Option V}{u:Option Value}(r:o3 o u):o.isSome=u.isSome:=by
 cases o with
 | none=>cases u with
   | none=>rfl
   | some _=>exact(show False from r).elim
 | some _=>cases u with
   | none=>exact(show False from r).elim
   | some _=>rfl
theorem o3.getD{o:Option V}{u:Option Value}{d:V}{d':Value}(r:o3 o u)(rd:RelV d d'):RelV (o.getD d) (u.getD d'):=by
 cases o with
 | none=>cases u with
   | none=>exact rd
   | some _=>exact(show False from r).elim
 | some _=>cases u with
   | none=>exact(show False from r).elim
   | some _=>exact r
theorem KV.val{kvs:List (κ×V)}{vs:List (κ×Value)}(r:KV kvs vs)(k:κ):o3 (iS kvs k) (valueAt vs k):=by
 unfold KV at r
 induction r with
 | nil=>exact True.intro
 | @cons p q ps qs h t ih=>
   obtain⟨h1,h2⟩:=h
   by_cases e:p.1=k
   · have e':q.1=k:=h1.symm.trans e
     have b:valueAt (q::qs) k=some q.2:=by simp[valueAt,abM,e']
     rw[jm e,b];exact h2
   · have e':¬q.1=k:=fun z=>e (h1.trans z)
     have b:valueAt (q::qs) k=valueAt qs k:=by simp[valueAt,abM,e']
     rw[jg e,b];exact ih
theorem KV.any{kvs:List (κ×V)}{vs:List (κ×Value)}(r:KV kvs vs)(k:κ):(kvs.any fun kv=>decide (kv.1=k))=vs.any fun kv=>decide (kv.1=k):=by
 unfold KV at r
 induction r with
 | nil=>rfl
 | cons h t ih=>rw[List.any_cons,List.any_cons,ih,h.1]
theorem KV.MY{kvs:List (κ×V)}{vs:List (κ×Value)}(r:KV kvs vs)(k:κ){y:V}{u:Value}(ry:RelV y u) :
   KV (kvs.map fun kv=>if kv.1=k then(kv.1,y) else kv) (vs.map fun kv=>if kv.1=k then(kv.1,u) else kv):=by
 unfold KV at r ⊢
 induction r with
 | nil=>exact .nil
 | @cons p q ps qs h t ih=>
   rw[aas,aas]
   refine .cons ?_ ih
   obtain⟨h1,h2⟩:=h
   by_cases e:p.1=k
   · rw[aar e,aar (h1.symm.trans e)];exact⟨h1,ry⟩
   · rw[aak e,aak (fun z=>e (h1.trans z))];exact⟨h1,h2⟩
theorem KV.put{kvs:List (κ×V)}{vs:List (κ×Value)}(r:KV kvs vs)(k:κ){y:V}{u:Value}(ry:RelV y u):KV (putK kvs k y) (stored vs k u):=by
 unfold putK stored
 rw[r.any k]
 by_cases e:(vs.any fun kv=>decide (kv.1=k))=true
 · rw[aar e,aar e];exact r.MY k ry
 · rw[aak e,aak e];exact Paired.snoc r ⟨rfl,ry⟩
theorem KV.drop{kvs:List (κ×V)}{vs:List (κ×Value)}(r:KV kvs vs)(k:κ):KV (jT kvs k) (without vs k):=by
 unfold KV at r ⊢
 unfold jT without
 induction r with
 | nil=>exact .nil
 | @cons p q ps qs h t ih=>
   obtain⟨h1,h2⟩:=h
   rw[abC,abC]
   by_cases e:p.1=k
   · have a:¬decide (p.1≠k)=true:=by simp[e]
     have b:¬decide (q.1≠k)=true:=by simp[h1.symm.trans e]
     rw[aak a,aak b];exact ih
   · have e':¬q.1=k:=fun z=>e (h1.trans z)
     have a:decide (p.1≠k)=true:=by simp[e]
     have b:decide (q.1≠k)=true:=by simp[e']
     rw[aar a,aar b];exact .cons ⟨h1,h2⟩ ih
theorem KV.length{kvs:List (κ×V)}{vs:List (κ×Value)}(r:KV kvs vs):kvs.length=vs.length:=Paired.length r
theorem C0(kvs:List (κ×V))(k:κ):(jT kvs k).length≤kvs.length:=aaB _ _
end
theorem yx{P:Program}{w:World}{k:Key}{u:Value}(r:RelV (kV k) u):(jd P w).is k u=true:=by
 cases k with
 | inl i=>obtain⟨t,e⟩:=(show ∃t,u=Value.int i t from r);subst e;exact CH P w i t
 | inr x=>obtain⟨t,e⟩:=(show ∃t,u=Value.str x t from r);subst e;exact CI P w x t
theorem AJ{P:Program}{w:World}:∀{ks:List Key} {us:List Value},Vals (ks.map kV) us→ItemsAre (jd P w) ks us
 | [],_,r=>by rw[List.map_nil] at r;cases r;exact .nil
 | k::ks,_,r=>by
   rw[aas] at r
   cases r with
   | cons h t=>exact .cons (yx h) (AJ t)
abbrev KT(H:Hp):List (List Key×V)→List (List Key×Addr×Value)→Prop:=Paired fun p q=>p.1=q.1∧H q.2.1=some (.tup (p.1.map kV))∧RelV p.2 q.2.2
theorem KT.val{H:Hp}{kvs:List (List Key×V)}{xs:List (List Key×Addr×Value)}(r:KT H kvs xs)(k:List Key):o3 (iS kvs k) ((atKey xs k).map (·.2)):=by
 induction r with
 | nil=>exact True.intro
 | @cons p q ps qs h t ih=>
   obtain⟨h1,_,h2⟩:=h
   by_cases e:p.1=k
   · have e':q.1=k:=h1.symm.trans e
     have b:atKey (q::qs) k=some q.2:=by simp[atKey,abM,e']
     rw[jm e,b];exact h2
   · have e':¬q.1=k:=fun z=>e (h1.trans z)
     have b:atKey (q::qs) k=atKey qs k:=by simp[atKey,abM,e']
     rw[jg e,b];exact ih
theorem KT.MY{H:Hp}{kvs:List (List Key×V)}{xs:List (List Key×Addr×Value)}(r:KT H kvs xs)(k:List Key){y:V}{u:Value}(ry:RelV y u) :
   KT H (kvs.map fun kv=>if kv.1=k then(kv.1,y) else kv) (xs.map (putAt k u)):=by
 induction r with
 | nil=>exact .nil
 | @cons p q ps qs h t ih=>
   rw[aas,aas]
   refine .cons ?_ ih
   obtain⟨h1,h2,h3⟩:=h
   unfold putAt
   by_cases e:p.1=k
   · rw[aar e,aar (h1.symm.trans e)];exact⟨h1,h2,ry⟩
   · rw[aak e,aak (fun z=>e (h1.trans z))];exact⟨h1,h2,h3⟩
theorem KT.put{H:Hp}{kvs:List (List Key×V)}{xs:List (List Key×Addr×Value)}(r:KT H kvs xs)(k:List Key){b:Addr}{y:V}{u:Value}(hb:H b=some (.tup (k.map kV)))(ry:RelV y u) :
   KT H (putK kvs k y) (storedH xs k b u):=by
 have e:(kvs.any fun kv=>decide (kv.1=k))=(atKey xs k).isSome:=by
   rw[qR,(r.val k).o5,Option.isSome_map]
 unfold putK storedH
 rw[e]
 by_cases q:(atKey xs k).isSome=true
 · rw[aar q,aar q];exact r.MY k ry
 · rw[aak q,aak q];exact Paired.snoc r ⟨rfl,hb,ry⟩
theorem KT.keeps{H H':Hp}{kvs:List (List Key×V)}{xs:List (List Key×Addr×Value)}(r:KT H kvs xs)(ht:∀b ys,H b=some (.tup ys)→H' b=some (.tup ys)):KT H' kvs xs:=
 Paired.kO r fun _ _ z=>⟨z.1,ht _ _ z.2.1,z.2.2⟩
section
variable{P:Program}{w:World}{H:Hp}{h:Heap}{a:Addr}
theorem LX{u:HO}(ok:qz P w H h)(e:Rd H a u):i8 P w H h a u:=e.ok ok
theorem wz{kvs:List (Key×V)}(ok:qz P w H h)(e:Rd H a (.dK kvs)):kvs.length≤sizeLine∧(a ==sysModules)=false∧∃vs,KV kvs vs∧h.DictOf (jd P w) a vs:=
 show i8 P w H h a (.dK kvs) from LX ok e
theorem HW{kvs:List (Key×V)}(ok:qz P w H h)(e:H a=some (.dK kvs)):kvs.length≤sizeLine∧(a ==sysModules)=false∧∃vs,KV kvs vs∧h.DictOf (jd P w) a vs:=wz ok (.inl e)
theorem tm{ks:List Key}(ok:qz P w H h)(e:H a=some (.tup (ks.map kV))):(tupleKind (jd P w)).is h ks a:=by
 obtain⟨_,ia,r,o,h1,h2,n,h3⟩:=(show i8 P w H h a (.tup (ks.map kV)) from ok a _ e)
 exact⟨o,ia.toArray,n,h1,h2,h3,by simpa using AJ r⟩
theorem wA{kvs:List (List Key×V)}(ok:qz P w H h)(e:Rd H a (.dT kvs)):kvs.length≤sizeLine∧(a ==sysModules)=false∧
   ∃xs,KT H kvs xs∧h.DictOfH (tupleKind (jd P w)) a xs:=by
 obtain⟨z,y,xs,r,o,es,ep,h1,h2,h3,h4,h5⟩:=(show i8 P w H h a (.dT kvs) from LX ok e)
 refine⟨z,y,xs,r,o,es,ep,h1,h2,h3,h4,fun x hx=>?_,h5⟩
 have all:∀{l:List (List Key×V)} {m:List (List Key×Addr×Value)},KT H l m→∀x∈m,(tupleKind (jd P w)).is h x.1 x.2.1:=by
   intro l m q
   induction q with
   | nil=>intro x hx;exact nomatch hx
   | @cons p q ps qs hq t ih=>
     intro x hx
     rcases XY.mp hx with e|hx
     · subst e
       exact tm ok (by rw[←hq.1];exact hq.2.1)
     · exact ih x hx
 exact all r x hx
theorem HX{kvs:List (List Key×V)}(ok:qz P w H h)(e:H a=some (.dT kvs)):kvs.length≤sizeLine∧(a ==sysModules)=false∧
   ∃xs,KT H kvs xs∧h.DictOfH (tupleKind (jd P w)) a xs:=wA ok (.inl e)
end
def jb(H:Hp)(a:Addr)(y:V)(r:Option V):Prop:=
 (∃kvs k,Rd H a (.dK kvs)∧y=kV k∧r=iS kvs k)∨∃kvs k b,Rd H a (.dT kvs)∧y=.ref b∧H b=some (.tup (k.map kV))∧r=iS kvs k
def mY(H:Hp)(a:Addr)(y v:V)(H':Hp):Prop:=
 (∃kvs k,H a=some (.dK kvs)∧y=kV k∧kvs.length<sizeLine∧H'=upd H a (.dK (putK kvs k v)))∨
 ∃kvs k b,H a=some (.dT kvs)∧y=.ref b∧H b=some (.tup (k.map kV))∧kvs.length<sizeLine∧H'=upd H a (.dT (putK kvs k v))
theorem jb.k{H:Hp}{a:Addr}{kvs:List (Key×V)}{k:Key}(e:H a=some (.dK kvs)):jb H a (kV k) (iS kvs k):=.inl ⟨kvs,k,.inl e,rfl,rfl⟩
theorem jb.t{H:Hp}{a b:Addr}{kvs:List (List Key×V)}{k:List Key}(e:H a=some (.dT kvs))(eb:H b=some (.tup (k.map kV))):jb H a (.ref b) (iS kvs k):=.inr ⟨kvs,k,b,.inl e,rfl,eb,rfl⟩
theorem mY.k{H:Hp}{a:Addr}{kvs:List (Key×V)}{k:Key}{v:V}(e:H a=some (.dK kvs))(hl:kvs.length<sizeLine):mY H a (kV k) v (upd H a (.dK (putK kvs k v))):=.inl ⟨kvs,k,e,rfl,hl,rfl⟩
theorem mY.t{H:Hp}{a b:Addr}{kvs:List (List Key×V)}{k:List Key}{v:V}(e:H a=some (.dT kvs))(eb:H b=some (.tup (k.map kV)))(hl:kvs.length<sizeLine) :
   mY H a (.ref b) v (upd H a (.dT (putK kvs k v))):=.inr ⟨kvs,k,b,e,rfl,eb,hl,rfl⟩
section
variable{X:Cx}{pins:List (Addr×Obj)}{σ:St}{H:Hp}{s:Shared}{a:Addr}{y v:V}{u r:Value}{o:Option V}{A:Around}{E:Value→Shared→Prop}
theorem Inv.big(I:Inv X pins σ H s):sysModules<s.heap.objs.size:=by
 have h:mainGlobals<s.heap.objs.size:=(I.mod.glob.keeps I.bk).lt
 exact Nat.lt_trans (by decide) h
theorem Gx{Q:Value→Shared→Prop}(hu:A.units+1<cLine)(I:Inv X pins σ H s)(g:jb H a y (some v))(ry:RelV y u)(h:∀w' s',Inv X pins σ H s'→RelV v w'→Q w' s') :
   wpAny (model X.prog X.w) A (getItem (.ref a) u) Q E s:=by
 rcases g with⟨kvs,k,e,ey,l⟩|⟨kvs,k,b,e,ey,eb,l⟩
 · subst ey
   obtain⟨z,hd,vs,rel,dd⟩:=wz I.iK e
   obtain⟨w',hw,Au⟩:=o3.some_of (v:=v) (o:=valueAt vs k) (by rw[l];exact rel.val k)
   exact wpAny_getItem_of (yx ry) dd.mapOf hw (h w' _ (I.tok _) Au)
 · subst ey
   cases (show u=Value.ref b from ry)
   obtain⟨z,hd,xs,rel,dd⟩:=wA I.iK e
   obtain⟨w',hw,Au⟩:=o3.some_of (v:=v) (o:=(atKey xs k).map (·.2)) (by rw[l];exact rel.val k)
   obtain⟨p,hp,zZ⟩:=aaC.mp hw
   refine wpAny_getItem_heap (tupleKind_room_in1 hu) (tm I.iK eb) dd hp ?_
   rw[zZ]
   exact h w' _ (I.tok _) Au
theorem UE{Q:Value→Shared→Prop}(hu:A.units+1<cLine)(I:Inv X pins σ H s)(g:jb H a y o)(ry:RelV y u)(h:∀s',Inv X pins σ H s'→Q (.bool o.isSome) s') :
   wpAny (model X.prog X.w) A (compareOp .In u (.ref a)) Q E s:=by
 rcases g with⟨kvs,k,e,ey,l⟩|⟨kvs,k,b,e,ey,eb,l⟩
 · subst ey
   obtain⟨z,hd,vs,rel,dd⟩:=wz I.iK e
   refine wpAny_in_of (yx ry) hd dd.mapOf ?_
   rw[←(rel.val k).o5,←l]
   exact h _ (I.tok _)
 · subst ey
   cases (show u=Value.ref b from ry)
   obtain⟨z,hd,xs,rel,dd⟩:=wA I.iK e
   refine wpAny_in_heap (tupleKind_room_in1 hu) (tm I.iK eb) hd dd ?_
   have q:=(rel.val k).o5
   rw[Option.isSome_map] at q
   rw[←q,←l]
   exact h _ (I.tok _)
theorem Ky{Q:Value→Shared→Prop}(hu:A.units+1<cLine)(I:Inv X pins σ H s)(g:jb H a y o)(ry:RelV y u)(h:∀s',Inv X pins σ H s'→Q (.bool (!o.isSome)) s') :
   wpAny (model X.prog X.w) A (compareOp .NotIn u (.ref a)) Q E s:=by
 rcases g with⟨kvs,k,e,ey,l⟩|⟨kvs,k,b,e,ey,eb,l⟩
 · subst ey
   obtain⟨z,hd,vs,rel,dd⟩:=wz I.iK e
   refine wpAny_notIn_of (yx ry) hd dd.mapOf ?_
   rw[←(rel.val k).o5,←l]
   exact h _ (I.tok _)
 · subst ey
   cases (show u=Value.ref b from ry)
   obtain⟨z,hd,xs,rel,dd⟩:=wA I.iK e
   refine wpAny_notIn_heap (tupleKind_room_in1 hu) (tm I.iK eb) hd dd ?_
   have q:=(rel.val k).o5
   rw[Option.isSome_map] at q
   rw[←q,←l]
   exact h _ (I.tok _)
theorem rZ{h':Heap}{t':Nat}{ob:HO}(I:Inv X pins σ H s)(mu:LO (H a))(hs:Heap.SameBut a s.heap h')(he:∃q,h'.get? a=some q)(new:i8 X.prog X.w (upd H a ob) h' a ob) :
   Inv X pins σ (upd H a ob) {s with heap:=h',toks:=t'}:=
 I.write (x:=a) (e:=a) mu (.inl rfl) (fun b q hb z=>(hs.2 b hb).trans z) he new
theorem EA{P:Program}{w:World}{H':Hp}{h':Heap}{kvs:List (Key×V)}{vs:List (Key×Value)}(z:kvs.length≤sizeLine)(hd:(a ==sysModules)=false)(rel:KV kvs vs)(dd:h'.DictOf (jd P w) a vs) :
   i8 P w H' h' a (.dK kvs):=⟨z,hd,vs,rel,dd⟩
theorem Gy{H':Hp}{Q:Unit→Shared→Prop}(hu:A.units+1<cLine)(I:Inv X pins σ H s)(g:mY H a y v H')(ry:RelV y u)(rv:RelV v r)(h:∀s',Inv X pins σ H' s'→Q () s') :
   wpAny (model X.prog X.w) A (setItem (.ref a) u r) Q E s:=by
 rcases g with⟨kvs,k,e,ey,l,eH⟩|⟨kvs,k,b,e,ey,eb,l,eH⟩
 · subst ey eH
   obtain⟨z,hd,vs,rel,dd⟩:=HW I.iK e
   have hz:vs.length≤sizeLine:=by rw[←rel.length];exact z
   have hl:(putK kvs k v).length≤sizeLine:=by have:=jv kvs k v;omega
   refine wpAny_setItem_pairs (hsz:=hz) (yx ry) dd fun h' Ke hs=>h _ ?_
   have he:∃q,h'.get? a=some q:=let ⟨q,_,_,hq,_⟩:=Ke;⟨q,hq⟩
   exact rZ I (by rw[e];exact True.intro) hs he (EA hl hd (rel.put k rv) Ke)
 · subst ey eH
   cases (show u=Value.ref b from ry)
   obtain⟨z,hd,xs,rel,dd⟩:=HX I.iK e
   have hz:xs.length≤sizeLine:=by rw[←Paired.length rel];exact z
   have hl:(putK kvs k v).length≤sizeLine:=by have:=jv kvs k v;omega
   refine wpAny_setItem_heap (hsz:=hz) (tupleKind_room_in1 hu) (tm I.iK eb) dd fun h' Ke hs=>h _ ?_
   obtain⟨q,es,ep,hq,h2,h3,h4,_,h5⟩:=Ke
   refine rZ I (by rw[e];exact True.intro) hs ⟨q,hq⟩ ⟨hl,hd,_,(rel.put k eb rv).keeps fun c ys ec=>?_,q,es,ep,hq,h2,h3,h4,h5⟩
   rw[de (i_ ec e (fun z=>nomatch z))]
   exact ec
end
section
variable{X:Cx}{pins:List (Addr×Obj)}{σ:St}{H:Hp}{s:Shared}{a:Addr}{kvs:List (Key×V)}{k:Key}{u:Value}{A:Around}{E:Value→Shared→Prop}
theorem P4{v:V}{more:List Value}{Q:Value→Shared→Prop}(I:Inv X pins σ H s)(e:H a=some (.dK kvs))(ry:RelV (kV k) u)(l:iS kvs k=some v)(hm:more=[]∨∃x,more=[x])
   (h:∀w' s',Inv X pins σ (upd H a (.dK (jT kvs k))) s'→RelV v w'→Q w' s'):wpAny (model X.prog X.w) A (call (.builtin "dict.pop") (.ref a::u::more)) Q E s:=by
 obtain⟨z,hd,vs,rel,dd⟩:=HW I.iK e
 obtain⟨w',hw,Au⟩:=o3.some_of (v:=v) (o:=valueAt vs k) (by rw[←l];exact rel.val k)
 have hp:(keyPart u).isSome=true:=by
   cases k with
   | inl i=>obtain⟨t,q⟩:=(show ∃t,u=Value.int i t from ry);subst q;rfl
   | inr x=>obtain⟨t,q⟩:=(show ∃t,u=Value.str x t from ry);subst q;rfl
 have ha:argsOk "dict.pop" ⟨.ref a::u::more,[]⟩:=by
   rcases hm with q|⟨x,q⟩
   · subst q;exact PySem.F.args_dict_pop_2 _ _
   · subst q;exact PySem.F.args_dict_pop_3 _ _ _
 refine call_meetsIn abO dd.typeIs PySem.F.entry_dict_pop ha (meets_dict_pop_there (jd X.prog X.w) a (yx ry) more hm hp)
   ⟨vs,w',dd,by rw[←rel.length];exact z,hw,fun h' Ke hs=>h w' _ ?_ Au⟩
 have he:∃q,h'.get? a=some q:=let ⟨q,_,_,hq,_⟩:=Ke;⟨q,hq⟩
 exact rZ I (by rw[e];exact True.intro) hs he (EA (aab (C0 kvs k) z) hd (rel.drop k) Ke)
end
def P5(i:Expr):Prop:=∀ov iv,subscripted i false ov iv=operate [ov,iv] (getItem ov iv)
theorem Kz{prog:Program}{w:World}{A:Around}{E:Value→Shared→Prop}{s:Shared}{env:Env}{value slice:Expr}{pos:Pos}{T id:String}{Q:Value→Shared→Prop}
   (hl:typeLookup (.type T) "__getitem__"=pure (some (.builtin id))) (hs:P5 slice)
   (h:wpAny (model prog w) A (eval value env) (fun o s₁=>wpAny (model prog w) A (eval slice env) (fun i s₂=>s₂.TypeIs o T∧wpAny (model prog w) A (getItem o i) Q E s₂) E s₁) E s) :
   wpAny (model prog w) A (eval (.Subscript value slice pos) env) Q E s:=by
 refine Subscript_ (wpAny_mono h (fun o s₁ h₁=>wpAny_mono h₁ (fun i s₂ h₂=>?_) fun _ _ x=>x) fun _ _ x=>x)
 obtain⟨hT,h₂⟩:=h₂
 unfold subscriptTail
 refine wpAny_bind ?_
 rw[getitemInPython_of_ne hT.not_modules]
 refine wpAny_bind (wpAny_specialOf hT hl ?_)
 have fin:wpAny (model prog w) A (subscripted slice false o i) (fun r s₃=>wpAny (model prog w) A (letTemporaryGo value o r >>= fun _=>pure r) Q E s₃) E s₂:=by
   rw[hs o i]
   exact wpAny_operating (wpAny_mono h₂ (fun r s₃ h₃=>wpAny_bind (wpAny_letTemporaryGo (wpAny_pure h₃))) fun _ _ x=>x)
 first
   | exact wpAny_pure (wpAny_bind fin)
   | exact wpAny_bind (wpAny_pure (wpAny_bind fin))
   | exact wpAny_bind fin
theorem C1{X:Cx}{pins:List (Addr×Obj)}{σ:St}{H:Hp}{s:Shared}{a:Addr}{y:V}{o:Option V}(I:Inv X pins σ H s)(g:jb H a y o):s.TypeIs (.ref a) "dict":=by
 rcases g with⟨kvs,k,e,_,_⟩|⟨kvs,k,b,e,_,_,_⟩
 · obtain⟨_,_,vs,_,dd⟩:=wz I.iK e
   exact dd.typeIs
 · obtain⟨_,_,xs,_,dd⟩:=wA I.iK e
   exact dd.typeIs
def P6(td ty:TE):TE:=fun σ H Q=>td σ H fun x H1=>ty σ H1 fun y H2=>∃a v,x=.ref a∧jb H2 a y (some v)∧Q v H2
def UG(ty td:TE):TE:=fun σ H Q=>ty σ H fun y H1=>td σ H1 fun x H2=>∃a o,x=.ref a∧jb H2 a y o∧Q (.bl o.isSome) H2
def KA(ty td:TE):TE:=fun σ H Q=>ty σ H fun y H1=>td σ H1 fun x H2=>∃a o,x=.ref a∧jb H2 a y o∧Q (.bl (!o.isSome)) H2
def P7(td ty tv:TE):TS:=fun D σ H=>tv σ H fun v H1=>td σ H1 fun x H2=>ty σ H2 fun y H3=>∃a H4,x=.ref a∧mY H3 a y v H4∧D.nx σ H4
section
variable{X:Cx}{o i e value:Expr}{pos pos' Ob:Pos}{td ty tv:TE}
theorem i3(hu:X.A.units+1<cLine)(ho:PE X o td)(hi:PE X i ty)(hs:P5 i):PE X (.Subscript o i pos) (P6 td ty):=by
 intro pins s σ H Q I h
 refine Kz PySem.F.slot_dict_getitem.lookup hs (i7 (ho pins s σ H _ I h) fun u s1 ⟨x,H1,I1,rx,q1⟩=>i7 (hi pins s1 σ H1 _ I1 q1) fun iv s2 ⟨y,H2,I2,ry,a,v,ex,g,q2⟩=>?_)
 subst ex
 obtain rfl:u=Value.ref a:=rx
 exact⟨C1 I2 g,Gx hu I2 g ry fun w' s3 I3 Au=>⟨v,H2,I3,Au,q2⟩⟩
theorem oP(hu:X.A.units+1<cLine)(hi:PE X i ty)(ho:PE X o td):PC X .In i o (UG ty td):=by
 intro pins s σ H Q I h
 refine i7 (hi pins s σ H _ I h) fun iv s1 ⟨y,H1,I1,ry,q1⟩=>i7 (ho pins s1 σ H1 _ I1 q1) fun u s2 ⟨x,H2,I2,rx,a,ov,ex,g,q2⟩=>?_
 subst ex
 obtain rfl:u=Value.ref a:=rx
 exact UE hu I2 g ry fun s3 I3=>⟨.bl ov.isSome,H2,I3,rfl,q2⟩
theorem lg(hu:X.A.units+1<cLine)(hi:PE X i ty)(ho:PE X o td):PC X .NotIn i o (KA ty td):=by
 intro pins s σ H Q I h
 refine i7 (hi pins s σ H _ I h) fun iv s1 ⟨y,H1,I1,ry,q1⟩=>i7 (ho pins s1 σ H1 _ I1 q1) fun u s2 ⟨x,H2,I2,rx,a,ov,ex,g,q2⟩=>?_
 subst ex
 obtain rfl:u=Value.ref a:=rx
 exact Ky hu I2 g ry fun s3 I3=>⟨.bl (!ov.isSome),H2,I3,rfl,q2⟩
theorem jB(hu:X.A.units+1<cLine)(ho:PE X o td)(hi:PE X i ty)(hv:PE X value tv)(hs:swapsWith value (some (.Subscript o i pos')) pos.line X.env=pure false) :
   PS X (.Assign [.Subscript o i pos'] value pos) (P7 td ty tv):=by
 intro pins s σ H D I h
 refine wpAny_Assign_Subscript (i7 (hv pins s σ H _ I h) fun r s1 ⟨v,H1,I1,rv,q1⟩=>i7 (ho pins s1 σ H1 _ I1 q1) fun u s2 ⟨x,H2,I2,rx,q2⟩=>i7 (hi pins s2 σ H2 _ I2 q2) fun iv s3 ⟨y,H3,I3,ry,a,H4,ex,g,q3⟩=>?_) hs
 subst ex
 obtain rfl:u=Value.ref a:=rx
 exact Gy hu I3 g ry rv fun s4 I4=>⟨σ,H4,I4,q3⟩
end
theorem HY{P:Program}{w:World}{H:Hp}(h:Heap)(hb:sysModules<h.objs.size):i8 P w H (h.push {cls:=.type "dict",data:=.dict #[]}) h.objs.size (.dK []):=
 ⟨aaE _,abk.mpr (abq (aaP hb)),[],.nil,Heap.DictOf.new h⟩
theorem HZ{P:Program}{w:World}{H:Hp}(h:Heap)(hb:sysModules<h.objs.size):i8 P w H (h.push {cls:=.type "dict",data:=.dict #[]}) h.objs.size (.dT []):=
 ⟨aaE _,abk.mpr (abq (aaP hb)),[],.nil,_,#[],0,Heap.get?_push_size _ rfl,⟨rfl,rfl,rfl⟩,rfl,rfl,aa6⟩
def MZ:TE:=fun _ H Q=>∀p,H p=none→Q (.ref p) (upd H p (.dK []))
def M0:TE:=fun _ H Q=>∀p,H p=none→Q (.ref p) (upd H p (.dT []))
section
variable{X:Cx}{pos:Pos}
theorem nF:PE X (.Dict [] [] pos) MZ:=fun pins s σ H Q I h=>
 wpAny_Dict_empty ⟨.ref s.heap.objs.size,_,I.laid (a:=s.heap.objs.size) (o:=.dK []) (t':=s.toks) (fun _ _ q=>Heap.get?_push_of_some _ q) (UU _) (HY s.heap I.big),rfl,h _ (I.iK.fresh (UU _))⟩
theorem mf:PE X (.Dict [] [] pos) M0:=fun pins s σ H Q I h=>
 wpAny_Dict_empty ⟨.ref s.heap.objs.size,_,I.laid (a:=s.heap.objs.size) (o:=.dT []) (t':=s.toks) (fun _ _ q=>Heap.get?_push_of_some _ q) (UU _) (HZ s.heap I.big),rfl,h _ (I.iK.fresh (UU _))⟩
end
structure M1(X:Cx)(o:Expr)(m:Str)(apos:Pos)(e:Expr)(kQ:Pos):Prop where
 base:attributeBase o m X.env (eval o X.env)=eval o X.env
 jK:((backTo kQ (starEach [e] X.env)).all (fun x=>!x.1)&&(backToKw kQ (keywordEach [] X.env)).all (fun x=>x.1.isSome)
   &&decide (([e]:List Expr).length+([]:List Keyword).length+(if([]:List Keyword).isEmpty then 0 else 1)<30))=true
 line:(apos.endLine ==kQ.line)=true
 trees:backTo kQ (starEach [e] X.env)=[(false,eval e X.env)]
structure M2(X:Cx)(o:Expr)(m:Str)(apos:Pos)(e f:Expr)(kQ:Pos):Prop where
 base:attributeBase o m X.env (eval o X.env)=eval o X.env
 jK:((backTo kQ (starEach [e,f] X.env)).all (fun x=>!x.1)&&(backToKw kQ (keywordEach [] X.env)).all (fun x=>x.1.isSome)
   &&decide (([e,f]:List Expr).length+([]:List Keyword).length+(if([]:List Keyword).isEmpty then 0 else 1)<30))=true
 line:(apos.endLine ==kQ.line)=true
 trees:backTo kQ (starEach [e,f] X.env)=[(false,eval e X.env),(false,eval f X.env)]
def OW(H:Hp)(a:Addr):Prop:=(∃kvs,Rd H a (.dK kvs))∨∃kvs,Rd H a (.dT kvs)
theorem yy{X:Cx}{pins:List (Addr×Obj)}{σ:St}{H:Hp}{s:Shared}{a:Addr}(I:Inv X pins σ H s)(d:OW H a) :
   s.TypeIs (.ref a) "dict"∧(∀b,Value.ref a=.ref b→∃ob,s.heap.get? b=some ob∧ob.dict=none)∧(a ==sysModules)=false:=by
 rcases d with⟨kvs,e⟩|⟨kvs,e⟩
 · obtain⟨_,hd,vs,_,dd⟩:=wz I.iK e
   refine⟨dd.typeIs,fun b q=>?_,hd⟩
   cases q
   obtain⟨ob,_,_,h1,h2,_⟩:=dd
   exact⟨ob,h1,h2.2.1⟩
 · obtain⟨_,hd,xs,_,dd⟩:=wA I.iK e
   refine⟨dd.typeIs,fun b q=>?_,hd⟩
   cases q
   obtain⟨ob,_,_,h1,h2,_⟩:=dd
   exact⟨ob,h1,h2.2.1⟩
section
variable{X:Cx}{pins:List (Addr×Obj)}{σ:St}{H:Hp}{s:Shared}{a:Addr}{y d:V}{u r:Value}{o:Option V}{A:Around}{E:Value→Shared→Prop}
theorem M3{Q:Value→Shared→Prop}(hu:A.units+1<cLine)(I:Inv X pins σ H s)(g:jb H a y o)(ry:RelV y u)(rd:RelV d r)(h:∀w' s',Inv X pins σ H s'→RelV (o.getD d) w'→Q w' s') :
   wpAny (model X.prog X.w) A (call (.builtin "dict.get") [.ref a,u,r]) Q E s:=by
 rcases g with⟨kvs,k,e,ey,l⟩|⟨kvs,k,b,e,ey,eb,l⟩
 · subst ey
   obtain⟨z,hd,vs,rel,dd⟩:=wz I.iK e
   refine call_meetsIn PySem.F.slot_dict_get dd.typeIs PySem.F.entry_dict_get (PySem.F.args_dict_get_3 _ _ _) (meets_dict_get_default (jd X.prog X.w) a (yx ry) hd r) ⟨_,dd.mapOf,h _ _ (I.tok _) ?_⟩
   rw[l]
   exact(rel.val k).getD rd
 · subst ey
   cases (show u=Value.ref b from ry)
   obtain⟨z,hd,xs,rel,dd⟩:=wA I.iK e
   refine call_meetsIn PySem.F.slot_dict_get dd.typeIs PySem.F.entry_dict_get (PySem.F.args_dict_get_3 _ _ _) (meetsH_dict_get_default (tupleKind (jd X.prog X.w)) a b hd r) ⟨tupleKind_room_in1 hu,k,xs,tm I.iK eb,dd,h _ _ (I.tok _) ?_⟩
   rw[l]
   exact(rel.val k).getD rd
end
def M4(td ty tx:TE):TE:=fun σ H Q=>td σ H fun x H1=>∃a,x=.ref a∧OW H1 a∧ty σ H1 fun y H2=>tx σ H2 fun z H3=>∃o,jb H3 a y o∧Q (o.getD z) H3
def M5(td ty:TE):TE:=fun σ H Q=>td σ H fun x H1=>∃a,x=.ref a∧OW H1 a∧ty σ H1 fun y H2=>∃kvs k v,H2 a=some (.dK kvs)∧y=kV k∧iS kvs k=some v∧Q v (upd H2 a (.dK (jT kvs k)))
section
variable{X:Cx}{o e f:Expr}{apos kQ:Pos}{td ty tx:TE}
theorem H_(hu:X.A.units+1<cLine)(ho:PE X o td)(he:PE X e ty)(hf:PE X f tx)(m:M2 X o "get" apos e f kQ):PE X (.Call (.Attribute o "get" apos) [e,f] [] kQ) (M4 td ty tx):=by
 intro pins s σ H Q I h
 refine wpAny_Call_method m.base m.jK m.line abi PySem.F.slot_dict_get PySem.F.type_dict_get (i7 (ho pins s σ H _ I h) fun u s1 ⟨x,H1,I1,rx,a,ex,d,q1⟩=>?_)
 subst ex
 obtain rfl:u=Value.ref a:=rx
 obtain⟨t1,t2,_⟩:=yy I1 d
 refine⟨t1,t2,?_⟩
 rw[m.trees]
 refine Calls.callWith_builtin rfl (Calls.evalArgs_plain (Calls.spliced_cons (i7 (he pins s1 σ H1 _ I1 q1) fun iv s2 ⟨y,H2,I2,ry,q2⟩=>
   Calls.spliced_cons (i7 (hf pins s2 σ H2 _ I2 q2) fun fv s3 ⟨z,H3,I3,rz,ov,g,q3⟩=>Calls.spliced_nil ?_))))
 exact M3 hu I3 g ry rz fun w' s4 I4 Au=>⟨_,H3,I4,Au,q3⟩
theorem Ia(ho:PE X o td)(he:PE X e ty)(m:M1 X o "pop" apos e kQ):PE X (.Call (.Attribute o "pop" apos) [e] [] kQ) (M5 td ty):=by
 intro pins s σ H Q I h
 refine wpAny_Call_method m.base m.jK m.line abi abO PySem.F.type_dict_pop (i7 (ho pins s σ H _ I h) fun u s1 ⟨x,H1,I1,rx,a,ex,d,q1⟩=>?_)
 subst ex
 obtain rfl:u=Value.ref a:=rx
 obtain⟨t1,t2,_⟩:=yy I1 d
 refine⟨t1,t2,?_⟩
 rw[m.trees]
 refine Calls.callWith_builtin rfl (Calls.evalArgs_plain (Calls.spliced_cons (i7 (he pins s1 σ H1 _ I1 q1) fun iv s2 ⟨y,H2,I2,ry,kvs,k,v,ea,ey,l,q2⟩=>Calls.spliced_nil ?_)))
 subst ey
 exact P4 I2 ea ry l (.inl rfl) fun w' s3 I3 Au=>⟨v,_,I3,Au,q2⟩
end
section
variable{X:Cx}{pins:List (Addr×Obj)}{σ:St}{H:Hp}{s:Shared}{a:Addr}{kvs:List (Key×V)}{A:Around}{E:Value→Shared→Prop}
end
section
variable{X:Cx}{pins:List (Addr×Obj)}{σ:St}{H:Hp}{s:Shared}{a:Addr}{y:V}{u:Value}{A:Around}{E:Value→Shared→Prop}
end
end L2
namespace XT
open PySem PySem.W PySem.Calls PyProof.Rows
theorem xD{P:Params}{h:Heap}:∀(ns:List Int)(vs:List Value),WellAll P h vs (ns.map WData.int)→IntsAre vs ns:=by
 intro ns
 induction ns with
 | nil=>
   intro vs w
   rw[List.map_nil] at w
   cases w
   exact .nil
 | cons n ns ih=>
   intro vs w
   rw[aas] at w
   cases w with
   | cons a b=>
     cases a
     exact .cons _ _ (ih _ b)
theorem Gz{l:OpenLaw}{n:Nat}(hn:l.most=some n){P:Params}{h:Heap}{args:List WData}{vals:List Value}
   (Hh:l.row.toRowW.claim.pre args=true) (Md:WellAll P h vals args) :
   ∃a vs ns,vals=[Value.ref a]∧args=[WData.list (ns.map WData.int)]∧h.get? a=some {cls:=.type "list",data:=.seq vs.toArray}∧IntsAre vs ns∧ns.length≤n:=by
 have hsh:WShape.hasAll [] args [.list .int]=true:=(pre_splitW Hh).1
 have hc:l.pre.holds [] {args:=args}=true:=(pre_splitW Hh).2
 obtain⟨d,r,rfl,h1,h2⟩:=hasAllW_cons hsh
 obtain rfl:=hasAllW_nil h2
 obtain⟨xs,rfl,h3⟩:=hasW_list h1
 obtain⟨ns,rfl⟩:=items_int h3
 have hlen:ns.length≤n:=by
   unfold OpenLaw.pre at hc
   have h4:(WTm.not (.lt (.lit (.int (n:Int))) (.len (.arg 0)))).holds [] {args:=[.list (ns.map .int)]}=true:=by
     have h4:=(holds_andW hc).1
     rw[hn] at h4
     exact h4
   have h5:=condW_of h4 (w_not (w_lt w_lit (w_len_list (w_arg rfl))))
   rw[Ro] at h5
   refine Nat.le_of_not_lt fun q=>?_
   have q':(n:Int)<((ns.length:Nat):Int):=by omega
   first
     | (rw[VE q'] at h5;exact absurd h5 (by decide))
     | (simp at h5;omega)
 cases Md with
 | cons w1 w2=>
   cases w2
   cases w1 with
   | list ho Ce=>exact⟨_,_,ns,rfl,rfl,ho,xD ns _ Ce,hlen⟩
theorem GA(l:OpenLaw)(args:List WData):l.row.toRowW.claim.post args (.bool true) args=true:=
 postW_of (r:=l.row.toRowW) (X:=(true ==true))
   (show WShape.has [] (.bool true) .bool=true by first|rfl|decide|simp[WShape.has,WShape.arms,WShape.armsAll])
   (show(WTm.eq .res (.lit (.bool true))).value [] {args:=args,res:=some (.bool true),after:=args}=some (.bool (true ==true)) from w_eq_bool (w_res rfl) w_lit) rfl
theorem C2{l:OpenLaw}{n:Nat}{q:Program}{loose:List Str}{XP:(Str→Option Value)→Heap→Prop}{YP:World→Heap→Prop}{d:DefRec}
   (hn:l.most=some n) (QU:d.params.defaults=[])
   (call:∀(w:World)(s₀ s₁:Shared)(mg mb:Str→Option Value)(fa:Addr)(o:Obj)(pm cd doc:Value)(a:Addr)(vs:List Value)(ns:List Int),
     Ground q loose [] XP w s₀ mg mb s₁.heap→YP w s₁.heap→
     s₁.heap.get? fa=some o→o.data=.func (docDef d.name d.params d.body d.scope pm cd doc)→s₁.heap.CodeRec cd d.name→mg d.name=some (.ref fa)→
     s₁.heap.get? a=some {cls:=.type "list",data:=.seq vs.toArray}→IntsAre vs ns→ns.length≤n→s₁.gens=#[]→
     codeAny (model l.prog w) callerA (.call (.ref fa) ⟨[.ref a],[]⟩) (fun r s'=>r=.ok (.ret (.bool true))∧OldK s₁.heap s'.heap∧s'.os=s₁.os∧AllBare s'.gens) s₁) :
   WalkO q loose XP YP l.row.toRowW d [] (fun f vs=>PySem.call f vs):=by
 intro w s₀ s₁ mg mb G Y fa o pm cd doc dV kV ho hd Bf hD QV hg args vals as Hh hlay hrd Md Vi
 obtain rfl:dV=.none:=Dflts.none hD QU
 obtain rfl:kV=.none:=Dflts.noKw hD
 obtain⟨a,vs,ns,rfl,rfl,Od,hints,hlen⟩:=Gz hn Hh Md
 refine enter_call (codeAny_mono (call w s₀ s₁ mg mb fa o pm cd doc a vs ns G Y ho (fd_plain hd) Bf QV Od hints hlen hg) fun r s' hq=>?_)
 obtain⟨rfl,h2,h3,h4⟩:=hq
 exact⟨.inl ⟨.bool true,.bool true,[],rfl,fun _=>rfl,.bool true,GA l _,fun _=>⟨List.Pairwise.nil,fun _ hm=>(nomatch hm)⟩⟩,h2,h3,h4⟩
section
variable{prog:Program}{w:World}{A:Around}{E:Value→Shared→Prop}{s:Shared}{K:Frag}
def ledger(h:Heap)(L d:Addr):List (Addr×Obj):=(List.range h.objs.size).filterMap fun a=>if a=L∨a=d then none else(h.get? a).map fun o=>(a,o)
end
end XT
namespace L2
open PySem PySem.Spec PyProof.Rows
theorem AK:∀{vs:List Value} {ns:List Int},IntsAre vs ns→Vals (ns.map V.int) vs
 | _,_,.nil=>.nil
 | _,_,.cons n t h=>.cons ⟨t,rfl⟩ (AK h)
def M6(H:Hp):Prop:=∀b,H b=none∨∃o xs,H b=some (.mK o (.lst xs))
theorem Ic{P:Program}{w:World}{K:PySem.W.Frag}{mg mb:Str→Option Value}{CX:Er}{k:Nat}{fa a:Addr}{fd:FuncData}{x:Str}{sp:Sp}{s₁:Shared}{vs:List Value}{ns:List Int}
   (KX:K.In s₁.heap) (Yk:s₁.heap.Ns mainGlobals mg) (hb:s₁.heap.Ns builtinsNs mb) (hbb:∀x:Str,x≠"__name__"→mb x=bootBuiltins x) (Vj:s₁.heap.NoLimit) (hg:s₁.gens=#[])
   (ha:s₁.heap.get? a=some {cls:=.type "list",data:=.seq vs.toArray}) (hi:IntsAre vs ns) (hl:ns.length≤sizeLine) (hr:kF k callerA)
   (F:∀base:Heap,K.In base→base.Ns mainGlobals mg→iw P w K mg base CX k fa fd [x] sp) (QW:∀(s:Shared)(u:Value),BindsTo s fd ⟨[u],[]⟩ [(x,u)])
   (Kd:∀H:Hp,M6 H→g_ K H a (ns.map V.int)→sp [.ref a] H (fun v _=>v=.bl true) fun _ _ _=>False)
   (Vk:∀H e s',CX [] H s₁ (fun _ _ _=>False) e s'→False) :
   codeAny (model P w) callerA (.call (.ref fa) ⟨[.ref a],[]⟩) (fun r s'=>r=.ok (.ret (.bool true))∧OldK s₁.heap s'.heap∧s'.os=s₁.os∧AllBare s'.gens) s₁:=by
 have rv:=AK hi
 have Vl:=hi.length
 have core:∀H:Hp,M6 H→g_ K H a (ns.map V.int)→qz P w H s₁.heap→(∀b,H b≠none→b=a)→(H a≠none→K.lookup a=none)→
     codeAny (model P w) callerA (.call (.ref fa) ⟨[.ref a],[]⟩) (fun r s'=>r=.ok (.ret (.bool true))∧OldK s₁.heap s'.heap∧s'.os=s₁.os∧AllBare s'.gens) s₁:=by
   intro H hO hS iK hA hK
   have Ga:∀{b:Addr} {o:Obj},s₁.heap.get? b=some o→H b=none→(Bh s₁.heap H).get? b=some o:=fun e n=>HE e n
   have QR:∀{b:Addr} {o:Obj} {es:Array DictEntry} {ep:Nat},s₁.heap.get? b=some o→o.data=.dict es ep→H b=none:=fun{b o es ep} e d=>by
     cases q:H b with
     | none=>rfl
     | some u=>
       have e':b=a:=hA b (by rw[q];simp)
       subst e'
       rw[ha] at e;cases e
       have d':Data.seq vs.toArray _=Data.dict es ep:=d
       cases d'
   have S7:∀{b:Addr} {m:Str→Option Value},s₁.heap.Ns b m→(Bh s₁.heap H).Ns b m:=fun{b m} ⟨o,es,ep,e,d,r⟩=>⟨o,es,ep,Ga e (QR e d),d,r⟩
   have Yl:K.In (Bh s₁.heap H):=fun b o e=>Ga (KX b o e) (by
     cases q:H b with
     | none=>rfl
     | some u=>
       have e':b=a:=hA b (by rw[q];simp)
       subst e'
       rw[hK (by rw[q];simp)] at e;cases e)
   have hM:Mod K mg (Bh s₁.heap H):=⟨Yl,S7 Yk,⟨mb,S7 hb,hbb⟩,let ⟨mc,h1,h2⟩:=Vj;⟨mc,S7 h1,h2⟩⟩
   have e0:Es P w K mg (Bh s₁.heap H) callerA [] s₁ H:=⟨rfl,hM,fun b o e=>Kj e,Nat.le_of_eq (Gk _ _),trivial,fun b hb=>absurd (show b∈([]:List Addr) from hb) (by simp),iK,.of_eq hg⟩
   refine codeAny_mono ((F _ Yl (S7 Yk)).run callerA [] s₁ H ⟨[.ref a],[]⟩ [.ref a] [.ref a] _ _ hr e0 (QW s₁ (.ref a)) (.cons rfl .nil) (Kd H hO hS)) fun r s' h=>?_
   cases r with
   | error e=>exact(Vk H e s' h).elim
   | ok fl=>
     cases fl with
     | next=>exact False.elim h
     | brk=>exact False.elim h
     | cont=>exact False.elim h
     | ret u=>
       obtain⟨v,H',os,bare,un,Vm,r',q⟩:=h
       have q':v=.bl true:=q
       subst q'
       obtain rfl:u=Value.bool true:=r'
       refine⟨rfl,OldK.of_keep fun b o e=>?_,os,bare⟩
       cases q:H b with
       | none=>exact un.keep b o e q (by intro z;exact absurd (show b∈([]:List Addr) from z) (by simp)) (by simp)
       | some u=>
         rcases hO b with z|⟨ob,xs,z⟩
         · rw[q] at z;cases z
         · have z2:=un.sY b ob _ z
           obtain⟨e1,_⟩:=iK b _ z
           obtain⟨e2,_⟩:=Vm b _ z2
           rw[e] at e1;cases e1
           exact e2
 cases hk:K.lookup a with
 | some o=>
   have e:=KX a o hk
   rw[ha] at e
   cases e
   refine core (fun _=>none) (fun _=>.inl rfl) (.inr ⟨_,vs.toArray,_,hk,rfl,rfl,rfl,by rw[aag,Vl];exact hl,by simpa using rv⟩) (fun b u z=>by have z':(none:Option HO)=some u:=z;cases z') (fun b z=>absurd rfl z) fun z=>absurd rfl z
 | none=>
   refine core (fun b=>if b=a then some (.mK {cls:=.type "list",data:=.seq vs.toArray} (.lst (ns.map V.int))) else none) (fun b=>?_) (.inl (.inr ⟨{cls:=.type "list",data:=.seq vs.toArray},aar rfl⟩)) (fun b u z=>?_) (fun b z=>?_) fun _=>hk
   · by_cases hb:b=a
     · exact .inr ⟨_,_,aar hb⟩
     · exact .inl (aak hb)
   · by_cases hb:b=a
     · have z':=(aar hb).symm.trans z
       cases z'
       subst hb
       exact⟨ha,by rw[Ro];exact hl,vs,_,rv,ha⟩
     · have z':=(aak hb).symm.trans z
       cases z'
   · by_cases hb:b=a
     · exact hb
     · exact absurd (aak hb) z
theorem KC{l:PySem.W.OpenLaw}{n k:Nat}{q:Program}{loose:List Str}{XP:(Str→Option Value)→Heap→Prop}{YP:World→Heap→Prop}{d:DefRec}{K:Params→PySem.W.Frag}{CX:World→Er}{sp:World→Sp}{x:Str}
   (hn:l.most=some n) (Oa:n≤sizeLine) (QU:d.params.defaults=[]) (hr:kF k callerA)
   (hY:∀(w:World)(h:Heap),YP w h→(K w.params).In h)
   (F:∀(w:World)(mg:Str→Option Value)(fa:Addr)(h:Heap),(K w.params).In h→h.Ns mainGlobals mg→mg d.name=some (.ref fa)→
     ∃fd:FuncData,(∀(s:Shared)(u:Value),BindsTo s fd ⟨[u],[]⟩ [(x,u)])∧
       ∀base:Heap,(K w.params).In base→base.Ns mainGlobals mg→iw l.prog w (K w.params) mg base (CX w) k fa fd [x] (sp w))
   (Kd:∀(w:World)(H:Hp)(a:Addr)(ns:List Int),ns.length≤n→M6 H→g_ (K w.params) H a (ns.map V.int)→sp w [.ref a] H (fun v _=>v=.bl true) fun _ _ _=>False)
   (Vk:∀(w:World)(H:Hp)(s:Shared)(e:Value)(s':Shared),CX w [] H s (fun _ _ _=>False) e s'→False) :
   PySem.W.WalkO q loose XP YP l.row.toRowW d [] (fun f vs=>PySem.call f vs):=by
 refine XT.C2 hn QU fun w s₀ s₁ mg mb fa o pm cd doc a vs ns G Y ho hd Bf QV Od hints hlen hg=>?_
 have KX:=hY w _ Y
 obtain⟨fd,hb,hF⟩:=F w mg fa _ KX G.T.g QV
 exact Ic KX G.T.g G.T.b G.T.builtins G.T.nolimit hg Od hints (aab hlen Oa) hr hF hb (fun H hO hS=>Kd w H a ns hlen hO hS) fun H e s'=>Vk w H s₁ e s'
def inClass(s:Stmt)(j:Nat):Stmt:=match s with
 | .ClassDef _ _ _ body _ _ _ _ _ _ _=>body.getD j (.Pass ⟨0,0,0,0⟩)
 | _=>.Pass ⟨0,0,0,0⟩
def pT(s:Stmt):Arguments:=match s with
 | .FunctionDef _ a _ _ _ _ _ _ _ _=>a
 | _=>{posonlyargs:=[],args:=[],vararg:=none,kwonlyargs:=[],kw_defaults:=[],kwarg:=none,defaults:=[]}
def mZ(s:Stmt):List Stmt:=match s with
 | .FunctionDef _ _ b _ _ _ _ _ _ _=>b
 | _=>[]
def fO(s:Stmt):Scope:=match s with
 | .FunctionDef _ _ _ _ _ _ sc _ _ _=>sc
 | _=>{kind:=.function,names:=[],isGenerator:=false,isCoroutine:=false}
abbrev m_:Er:=fun _ _ _ _ _ _=>False
abbrev E0:XK:=fun _ _ _=>False
theorem oa{X:Cx}:Passes m_ X E0:=fun _ _ _ _ _ _ _ h=>h.elim
structure AL(K:PySem.W.Frag)(x qual:Str)(st:Stmt)(f:Addr)(fd:FuncData):Prop where
 ex:∃(oc:Value)(od:Option Addr)(kV doc pm:Value)(an:Option Addr)(jL ct:Value)(Hy:Array (Option Value)),
   fd=PySem.W.fnOf x qual (pT st) (mZ st) (fO st) .none kV doc pm an jL ct∧K.lookup f=some ⟨oc,od,.func fd,Hy⟩∧PySem.W.codeIn K jL qual=true
 kp:PySem.W.keepIn K (.ref f)=true
section
variable{P:Program}{w:World}{K:PySem.W.Frag}{mg:Str→Option Value}{base:Heap}
theorem AL.ok{x qual:Str}{st:Stmt}{f:Addr}{fd:FuncData}{N ps:List Str}{k:Nat}{sp:Sp}(F:AL K x qual st f fd)(S:gw N ps (fO st))(len:∀vs H Q E,sp vs H Q E→vs.length=ps.length)
   (D3:∀(jL:Value)(A:Around)(outer:List Env)(s:Shared)(H:Hp)(vs:List V)(Q:VK)(E:XK),kF k (A.deeper (envOfC qual (fO st) s.heap.objs.size f jL))→sp vs H Q E→
     ∃t,Ed (yr m_ P w K mg base N qual (fO st) f jL A outer s H E).SK (mZ st) t∧t {nx:=fun _ H'=>Q .jx H',rt:=Q} (start N vs) H):iw P w K mg base m_ (k+1) f fd ps sp:=by
 obtain⟨oc,od,kV,doc,pm,an,jL,ct,Hy,rfl,lk,Bf⟩:=F.ex
 refine LW lk Bf S len fun A outer s H vs Q E hr Kd=>?_
 obtain⟨t,h,q⟩:=D3 jL A outer s H vs Q E hr Kd
 exact⟨t,h.SK,q⟩
theorem AL.binds{x qual:Str}{st:Stmt}{f:Addr}{fd:FuncData}{ps:List Str}(F:AL K x qual st f fd)
   (h:∀(kV doc pm:Value)(an:Option Addr)(jL ct:Value)(us:List Value),us.length=ps.length→bindArgs (PySem.W.fnOf x qual (pT st) (mZ st) (fO st) .none kV doc pm an jL ct) ⟨us,[]⟩=pure (ps.zip us)):Binds K fd ps []:=by
 obtain⟨oc,od,kV,doc,pm,an,jL,ct,Hy,rfl,lk,Bf⟩:=F.ex
 exact .all (h kV doc pm an jL ct)
theorem Ie{x qual:Str}{st:Stmt}{f:Addr}{oc:Value}{od an:Option Addr}{Hy:Array (Option Value)}{kV doc pm jL ct:Value}(l:K.lookup f=some ⟨oc,od,.func (PySem.W.fnOf x qual (pT st) (mZ st) (fO st) .none kV doc pm an jL ct),Hy⟩)
   (c:PySem.W.codeIn K jL qual=true) (k:PySem.W.keepIn K (.ref f)=true):AL K x qual st f (PySem.W.fnOf x qual (pT st) (mZ st) (fO st) .none kV doc pm an jL ct):=⟨⟨oc,od,kV,doc,pm,an,jL,ct,Hy,rfl,l,c⟩,k⟩
end
theorem il{A:Around}{k:Nat}(hr:kF k A):A.units+1<cLine:=aba (Nat.add_le_add_left (by decide:1≤64) _) hr.units
section
variable{X:Cx}
theorem pv(i:Nat){x:Str}{pos:Pos}(hN:X.N[i]?=some x:=by rfl)(hv:T_ X.env.scope x:=by first|exact Or.inl rfl|exact Or.inr (Or.inl rfl)|exact Or.inr (Or.inr rfl))(hd:(x ==("__debug__":Str))=false:=by decide)
   (Bf:(x ==("__classdict__":Str))=false:=by decide):PE X (.Name x pos) (Pz i):=MG hN hv hd Bf
end
theorem jU{A B:Prop}(h:B):if false=true then A else B:=by
 rw[aak aad]
 exact h
theorem lU{A B:Prop}(h:A):if true=true then A else B:=by
 rw[aar rfl]
 exact h
theorem ku{c A B:Prop}[Decidable c](h1:c→A)(h2:¬c→B):if c then A else B:=by
 by_cases h:c
 · rw[aar h]
   exact h1 h
 · rw[aak h]
   exact h2 h
def gg(H H':Hp):Prop:=∀b o,H b=some o→H' b=some o
theorem gg.refl(H:Hp):gg H H:=fun _ _ h=>h
theorem gg.trans{H H1 H2:Hp}(a:gg H H1)(b:gg H1 H2):gg H H2:=fun c o h=>b c o (a c o h)
theorem gg.free{H H':Hp}(e:gg H H'){l:Addr}(h:H' l=Option.none):H l=Option.none:=by
 cases q:H l with
 | none=>rfl
 | some o=>
   rw[e l o q] at h
   cases h
section
variable{κ:Type}[DecidableEq κ]
theorem vg{p:κ×V}{r:List (κ×V)}{k:κ}(e:p.1=k):jT (p::r) k=jT r k:=by
 unfold jT
 rw[abC,aak (by simp[e])]
theorem vj{p:κ×V}{r:List (κ×V)}{k:κ}(e:¬p.1=k):jT (p::r) k=p::jT r k:=by
 unfold jT
 rw[abC,aar (by simp[e])]
end
section
variable{prog:Program}{w:World}{A:Around}{R:Result→Shared→Prop}{s:Shared}
abbrev KD:Value→Shared→Prop:=fun _ _=>False
theorem Bq{elt target iter:Expr}{ifs:List Expr}{scope:Scope}{pos:Pos}{it acc:Value}{env:Env}(I:Nat→Shared→Prop)
   (turn:∀n s,I n s→wpAny (model prog w) A (pyNext it) (fun r s1=>match r with
     | none=>R (.ok .next) s1
     | some v=>wpAny (model prog w) A (letOwnedTupleGo target it v) (fun _ Ym=>wpAny (model prog w) A (assign target env v) (fun _ s2=>
         wpAny (model prog w) A (forIn ifs true fun c r=>if r=true then do let ok ←isTrue c env (eval c env);pure (ForInStep.yield ok) else pure (ForInStep.yield r)) (fun ok s3=>
           if ok=true then wpAny (model prog w) A (eval elt env) (fun x s4=>wpAny (model prog w) A (call (.builtin "list.append") [acc,x]) (fun _ s5=>∃m,m<n∧I m s5) KD s4) KD s3
           else ∃m,m<n∧I m s3) KD s2) KD Ym) KD s1) KD s)
   (n:Nat) (h:I n s):codeAny (model prog w) A (.compLoop (.ListComp elt [⟨target,iter,ifs,0⟩] scope pos) 0 it acc env) R s:=by
 refine codeAny_loop rfl I (fun n s hI=>?_) n h
 show wpAny _ A ((compTurn (.ListComp elt [⟨target,iter,ifs,0⟩] scope pos) 0 it acc env).onRaise (fun x=>do noteFrame x env;theTreesLotGoes x)) _ _ s
 refine wpAny_noted ?_
 rw[compTurn_list]
 refine wpAny_bind (wpAny_standAt (wpAny_bind (wpAny_mono (turn n s hI) (fun r s1 h1=>?_) fun _ _ h'=>h'.elim)))
 cases r with
 | none=>exact wpAny_pure h1
 | some v=>
   refine wpAny_bind (wpAny_mono h1 (fun _ Ym Lv=>?_) fun _ _ h'=>h'.elim)
   refine wpAny_bind (wpAny_mono Lv (fun _ s2 h2=>wpAny_bind (wpAny_mono h2 (fun ok s3 h3=>?_) fun _ _ h'=>h'.elim)) fun _ _ h'=>h'.elim)
   cases ok with
   | false=>exact wpAny_pure ⟨rfl,h3⟩
   | true=>
     exact wpAny_bind (wpAny_bind (wpAny_mono h3 (fun x s4 h4=>wpAny_bind (wpAny_mono h4 (fun _ s5 h5=>wpAny_pure (wpAny_pure ⟨rfl,h5⟩)) fun _ _ h'=>h'.elim)) fun _ _ h'=>h'.elim))
end
def jz(cells:List (Str×Addr)):List (Str×NameKind)→List (Str×Addr)→List (Str×Addr)
 | [],cs=>cs
 | (n,k)::r,cs=>jz cells r (if k ==.free then(n,(cells.lookup n).getD 0)::cs else cs)
theorem AM{cells:List (Str×Addr)}:∀{names:List (Str×NameKind)} {cs:List (Str×Addr)} {x:Str} {c:Addr},(∀y∈names,y.2=.free→∃c,cells.lookup y.1=some c)→
   (jz cells names cs).lookup x=some c→cs.lookup x=some c∨cells.lookup x=some c
 | [],_,_,_,_,h=>.inl h
 | (n,k)::r,cs,x,c,hf,h=>by
   rcases AM (fun y hy=>hf y (aaf _ hy)) (show(jz cells r (if k ==.free then(n,(cells.lookup n).getD 0)::cs else cs)).lookup x=some c from h) with q|q
   · by_cases hk:(k ==NameKind.free)=true
     · rw[aar hk] at q
       by_cases hx:(x ==n)=true
       · rw[abD,hx] at q
         obtain⟨c',e⟩:=hf (n,k) aal (eq_of_beq hk)
         have e:cells.lookup n=some c':=e
         rw[e] at q
         have q:some c'=some c:=q
         rw[eq_of_beq hx,e,q]
         exact .inr rfl
       · rw[abD,abj.mpr hx] at q
         exact .inl q
     · rw[aak hk] at q
       exact .inl q
   · exact .inr q
theorem yz{cells:List (Str×Addr)}:∀{names:List (Str×NameKind)} {cs:List (Str×Addr)} {x:Str},(∃c,cs.lookup x=some c)→∃c,(jz cells names cs).lookup x=some c
 | [],_,_,h=>h
 | (n,k)::r,cs,x,h=>by
   refine yz (names:=r) ?_
   by_cases hk:(k ==NameKind.free)=true
   · rw[aar hk,abD]
     cases x ==n with
     | true=>exact⟨_,rfl⟩
     | false=>exact h
   · rw[aak hk];exact h
theorem vk{cells:List (Str×Addr)}:∀{names:List (Str×NameKind)} {cs:List (Str×Addr)} {x:Str},(x,NameKind.free)∈names→∃c,(jz cells names cs).lookup x=some c
 | [],_,_,h=>nomatch h
 | (n,k)::r,cs,x,h=>by
   rcases XY.mp h with e|h2
   · cases e
     refine yz (names:=r) ⟨(cells.lookup n).getD 0,?_⟩
     rw[aar (by rfl),abD,beq_self_eq_true]
   · exact vk (names:=r) h2
theorem sH{scope:Scope}{env:Env}(hf:∀y∈scope.names,y.2=.free→∃c,env.cells.lookup y.1=some c):closureFor scope env=pure (jz env.cells scope.names []):=by
 have key:∀(names:List (Str×NameKind))(cs:List (Str×Addr)),(∀y∈names,y.2=.free→∃c,env.cells.lookup y.1=some c)→
     (forIn names cs fun(x:Str×NameKind) (r:List (Str×Addr))=>(match x with
       | (name,kind)=>if(kind ==NameKind.free)=true then(do let a ←cellOf env name;pure (ForInStep.yield ((name,a)::r))) else pure (ForInStep.yield r):Sem (ForInStep (List (Str×Addr)))))=(pure (jz env.cells names cs):Sem (List (Str×Addr))):=by
   intro names
   induction names with
   | nil=>intro cs _;rfl
   | cons y r ih=>
     intro cs h
     obtain⟨n,k⟩:=y
     rw[List.forIn_cons]
     by_cases hk:(k ==NameKind.free)=true
     · obtain⟨c,e⟩:=h (n,k) aal (eq_of_beq hk)
       have e:env.cells.lookup n=some c:=e
       have ec:cellOf env n=pure c:=by unfold cellOf;rw[e]
       simp only [hk,if_true,ec,pure_bind]
       rw[ih _ fun y hy=>h y (aaf _ hy)]
       simp only [jz,hk,if_true,e,Option.getD_some]
     · simp only [hk,abJ,pure_bind,aaU]
       rw[ih _ fun y hy=>h y (aaf _ hy)]
       simp only [jz,hk,abJ,aaU]
 have q:=key scope.names [] hf
 simp only [closureFor]
 first
   | (rw[q];rfl)
   | (simp only [q,pure_bind])
   | exact(aaW (fun t=>t >>= pure) q).trans (pure_bind _ _)
theorem qB{f:Str→NameKind→NameKind}:∀{names:List (Str×NameKind)} {x:Str},(names.map fun y=>(y.1,f y.1 y.2)).lookup x=(names.lookup x).map (f x)
 | [],_=>rfl
 | (n,k)::r,x=>by
   show List.lookup x ((n,f n k)::_)=_
   rw[abD,abD]
   cases h:x ==n with
   | true=>rw[eq_of_beq h];rfl
   | false=>exact qB (names:=r)
theorem lB{scope:Scope}{env:Env}{x:Str}:(relabel scope env).names.lookup x=(scope.names.lookup x).map fun k=>if(k ==.free&&env.scope.kind ==.function&&env.kindOf x ==some .cell)=true then .cell else k:=by
 have e:(relabel scope env).names=scope.names.map fun y=>(y.1,(fun(n:Str) (k:NameKind)=>if(k ==.free&&env.scope.kind ==.function&&env.kindOf n ==some .cell)=true then NameKind.cell else k) y.1 y.2):=by
   show(scope.names.map _)=_
   refine abA fun y _=>?_
   obtain⟨n,k⟩:=y
   show(if(k ==.free&&env.scope.kind ==.function&&env.kindOf n ==some .cell)=true then(n,NameKind.cell) else(n,k))=(n,if(k ==.free&&env.scope.kind ==.function&&env.kindOf n ==some .cell)=true then NameKind.cell else k)
   split<;>rfl
 rw[e]
 exact qB (f:=fun(n:Str) (k:NameKind)=>if(k ==.free&&env.scope.kind ==.function&&env.kindOf n ==some .cell)=true then NameKind.cell else k)
def blank:List Nat→St→St
 | [],σ=>σ
 | i::r,σ=>blank r (σ.set i none)
theorem AN:∀{is:List Nat} {σ:St},(blank is σ).length=σ.length
 | [],_=>rfl
 | i::r,σ=>by
   show(blank r (σ.set i none)).length=_
   rw[AN,abV]
theorem Br{σ:St}{i j:Nat}{v:V}(h:(σ.set i none)[j]?=some (some v)):σ[j]?=some (some v)∧j≠i:=by
 by_cases e:j=i
 · subst e
   by_cases hl:j<σ.length
   · rw[aa4 hl] at h;cases h
   · rw[abf.mpr (by rw[abV];omega)] at h;cases h
 · rw[abb (abq e)] at h
   exact⟨h,e⟩
theorem AO:∀{is:List Nat} {σ:St} {j:Nat} {v:V},(blank is σ)[j]?=some (some v)→σ[j]?=some (some v)∧j∉is
 | [],_,_,_,h=>⟨h,by simp⟩
 | i::r,σ,j,v,h=>by
   obtain⟨h1,h2⟩:=AO (is:=r) (σ:=σ.set i none) h
   obtain⟨h3,h4⟩:=Br h1
   exact⟨h3,fun m=>(XY.mp m).elim h4 h2⟩
def GB(N:List Str)(out:List (Str×NameKind))(is:List Nat)(names:List (Str×NameKind)):Bool:=
 (names.all fun y=>y.2 != .cell&&(y.2 != .free||out.lookup y.1 ==some .cell||out.lookup y.1 ==some .free)&&(y.2 != .local||names.lookup y.1 ==some .local))&&
 (N.zipIdx.all fun p=>names.lookup p.1 != some .local||is.contains p.2)
structure Bs(N:List Str)(out:List (Str×NameKind))(is:List Nat)(names:List (Str×NameKind)):Prop where
 EB:∀y∈names,y.2≠.cell
 free:∀y∈names,y.2=.free→out.lookup y.1=some .cell∨out.lookup y.1=some .free
 loc:∀y∈names,y.2=.local→names.lookup y.1=some .local
 own:∀(i:Nat)(x:Str),N[i]?=some x→names.lookup x=some .local→i∈is
theorem Bs.of{N:List Str}{out:List (Str×NameKind)}{is:List Nat}{names:List (Str×NameKind)}(h:GB N out is names=true):Bs N out is names:=by
 unfold GB at h
 rw[aaX] at h
 obtain⟨h1,h2⟩:=h
 have a:=abn.mp h1
 have b:=abn.mp h2
 refine⟨fun y hy e=>?_,fun y hy e=>?_,fun y hy e=>?_,fun i x hi e=>?_⟩
 · have q:=a y hy
   rw[e] at q
   simp at q
 · have q:=a y hy
   simp only [e,aaX,abW,bne_self_eq_false,aaU,false_or,abF] at q
   rcases q.1.2 with z|z
   · exact .inl z
   · exact .inr z
 · have q:=a y hy
   simp only [e,aaX,abW,bne_self_eq_false,aaU,false_or,abF] at q
   exact q.2
 · have hm:(x,i)∈N.zipIdx:=by
     rw[aaH]
     exact⟨i,by rw[List.getElem?_zipIdx,hi];simp⟩
   have q:=b (x,i) hm
   simp only [e,abW,bne_self_eq_false,aaU,false_or] at q
   exact List.contains_iff_mem.mp q
def Cx.block(X:Cx)(scope:Scope)(cl:List (Str×Addr))(C:Addr)(s:Shared)(H:Hp)(ex:List Addr):Cx:=
 {X with env:=compEnvC scope cl C X.env,s₀:=s,H₀:=H,outer:=X.stack,ex:=ex,fn:=fun _=>false,pn:=[],xe:=KD}
section
variable{X:Cx}{pins:List (Addr×Obj)}{σ:St}{H:Hp}{s:Shared}{scope:Scope}{is:List Nat}{ex:List Addr}{C:Addr}
theorem yA(I:Inv X pins σ H s)(hs:Bs X.N X.env.scope.names is scope.names):∀y∈scope.names,y.2=.free→∃c,X.env.cells.lookup y.1=some c:=fun y hy e=>I.ok.has y.1 (hs.free y hy e)
theorem mi(I:Inv X pins σ H s)(hs:Bs X.N X.env.scope.names is scope.names){x:Str}{c:Addr}(h:(jz X.env.cells scope.names []).lookup x=some c):X.env.cells.lookup x=some c:=
 (AM (yA I hs) h).resolve_left fun z=>nomatch z
theorem Ig(I:Inv X pins σ H s)(hs:Bs X.N X.env.scope.names is scope.names)(hk:scope.kind=.function)(hC:s.heap.objs.size≤C)(hf:∀b∈ex,s_ X pins H b)(ho:∀b∈ex,∃o,s.heap.get? b=some o) :
   (X.block scope (jz X.env.cells scope.names []) C s H ex).Ok where
 mod:=I.ok.mod
 kind:=hk
 glob:=I.ok.glob
 blt:=I.ok.blt
 above:=hC
 inj:=fun x y c h1 h2=>I.ok.inj x y c (mi I hs h1) (mi I hs h2)
 has:=fun x hx=>by
   have hx:(relabel scope X.env).names.lookup x=some .cell∨(relabel scope X.env).names.lookup x=some .free:=hx
   rw[lB] at hx
   cases e:scope.names.lookup x with
   | none=>
     rw[e] at hx
     rcases hx with z|z<;>cases z
   | some k=>
     have hm:(x,k)∈scope.names:=abe e
     have hk:k=.free:=by
       rw[e] at hx
       cases k with
       | free=>rfl
       | cell=>exact absurd rfl (hs.EB _ hm)
       | _=>rcases hx with z|z<;>simp at z
     subst hk
     exact vk hm
 LP:=fun _ _ h=>Bool.noConfusion h
 hd:=I.ok.hd
 frames:=I.ok.frames
 ME:=.inl rfl
 Px:=fun b hb=>by
   obtain⟨o,e⟩:=ho b hb
   exact⟨aaP (aax (Heap.lt_size e) hC),fun x c h=>(hf b hb).2.2.2.2.1 x c (mi I hs h)⟩
 bs:=I.bs
 HF:=aab I.ok.HF I.sz
 qN:=fun b o e hb=>by
   rcases(hf b hb).2.2.2.1 with z|z
   · exact I.ok.qN b o e z
   · exact absurd (aax (Heap.lt_size (I.ok.bs b o e).1) z) (aa_ _)
 Eh:=fun b hb hm=>by
   rcases XY.mp (I.vb b hm) with z|z
   · exact(hf b hb).2.1 z
   · exact(hf b hb).2.2.1 z
 sx:=I.stack
 Kb:=I.xY
theorem GD{h':Heap}{t':Nat}{pl:List (Addr×Obj)}(I:Inv X pins σ H s)(hs:Bs X.N X.env.scope.names is scope.names)(hk:scope.kind=.function)(hC:s.heap.objs.size≤C)(hf:∀b∈ex,s_ X pins H b)(ho:∀b∈ex,∃o,s.heap.get? b=some o)
   (old:∀b o,s.heap.get? b=some o→h'.get? b=some o) {m:Str→Option Value} (hn:h'.Ns C m)
   (hp:∀p∈pl,h'.get? p.1=some p.2∧s.heap.objs.size≤p.1∧p.1≠C∧∀v,p.2.data≠.cell v) :
   Inv (X.block scope (jz X.env.cells scope.names []) C s H ex) pl (blank is σ) H {s with heap:=h',toks:=t'} where
 ok:=Ig I hs hk hC hf ho
 os:=rfl
 bare:=I.bare
 base:=Un.kept old
 loc:=⟨m,hn,fun i x v h1 h2 h3=>by
   have h3:(relabel scope X.env).names.lookup x=some .local∨(relabel scope X.env).names.lookup x=some .cell∨(relabel scope X.env).names.lookup x=some .free:=h3
   obtain⟨h2,hi⟩:=AO h2
   have h1:X.N[i]?=some x:=h1
   cases e:scope.names.lookup x with
   | none=>
     rw[lB,e] at h3
     rcases h3 with z|z|z<;>cases z
   | some k=>
     have hm:(x,k)∈scope.names:=abe e
     have hk:k=.free:=by
       rw[lB,e] at h3
       cases k with
       | free=>rfl
       | cell=>exact absurd rfl (hs.EB _ hm)
       | «local»=>exact absurd (hs.own i x h1 e) hi
       | _=>rcases h3 with z|z|z<;>simp at z
     subst hk
     have hv:X.env.scope.names.lookup x=some .cell∨X.env.scope.names.lookup x=some .free:=hs.free _ hm rfl
     obtain⟨m0,_,hl⟩:=I.loc
     obtain⟨u,r,q⟩:=hl i x v h1 h2 (.inr hv)
     refine⟨u,r,.inr ⟨?_,?_⟩⟩
     · show(relabel scope X.env).names.lookup x=some .cell∨(relabel scope X.env).names.lookup x=some .free
       rw[lB,e]
       show some (if _ then NameKind.cell else NameKind.free)=_∨some (if _ then NameKind.cell else NameKind.free)=_
       split
       · exact .inl rfl
       · exact .inr rfl
     · rcases q with⟨z,_⟩|⟨_,c,ec,cc⟩
       · have z:X.env.scope.names.lookup x=some .local:=z
         rcases hv with hv|hv<;>rw[hv] at z<;>cases z
       · obtain⟨c',e'⟩:=vk (cells:=X.env.cells) (cs:=[]) hm
         have e2:=mi I hs e'
         rw[ec] at e2
         cases e2
         obtain⟨o,ho,hd⟩:=cc
         exact⟨c,e',o,old _ _ ho,hd⟩⟩
 cell:=fun x c h=>by
   obtain⟨v,o,ho,hd⟩:=I.cell x c (mi I hs h)
   exact⟨v,o,old _ _ ho,hd⟩
 free:=I.iK.fresh hC
 ma:=fun x c h=>I.ma x c (mi I hs h)
 pin:=fun p hp'=>by
   obtain⟨h1,h2,h3,h4⟩:=hp p (by simpa[Cx.block] using hp')
   refine⟨h1,I.iK.fresh h2,h3,fun hm=>?_,h4⟩
   rcases XY.mp (I.vb p.1 hm) with z|z
   · exact absurd (aax I.lt (by rw[←z];exact h2)) (aa_ _)
   · exact I.Py h2 z
 iK:=I.iK.kept old
 len:=by rw[AN];exact I.len
end
theorem iu{X:Cx}{scope:Scope}{cl:List (Str×Addr)}{C:Addr}{s:Shared}{H:Hp}{ex:List Addr}:(X.block scope cl C s H ex).K=X.K:=rfl
theorem PE.eqv{X:Cx}{e:Expr}{t t':TE}(h:PE X e t')(q:t'=t):PE X e t:=q▸h
def M7(X:Cx)(ifs:List Expr)(t:TT):Prop:=
 ∀(pins:List (Addr×Obj))(s:Shared)(σ:St)(H:Hp)(Q:Bool→Hp→Prop),Inv X pins σ H s→t σ H Q→
   wpAny (model X.prog X.w) X.A (forIn ifs true fun c r=>if r=true then do let ok ←isTrue c X.env (eval c X.env);pure (ForInStep.yield ok) else pure (ForInStep.yield r)) (TP X pins σ Q) X.xe s
def UH:TT:=fun _ H Q=>Q true H
theorem mx{X:Cx}:M7 X [] UH:=fun _ _ _ H _ I h=>wpAny_tests_nil ⟨H,I,h⟩
theorem nG{X:Cx}{c:Expr}{t:TT}(h:PT X c t):M7 X [c] t:=fun pins s σ H Q I hw=>wpAny_tests_one (h pins s σ H Q I hw)
def GF(g:TG)(tt:TT)(te:TE)(J:It)(Q:List V→Hp→Prop)(σ:St)(H:Hp):Prop:=
 ∃W:Nat→Nat→List V→St→Hp→Prop,(∃m,W 0 m [] σ H)∧∀i m ys σ H,W i m ys σ H→
   (J.stop i H∧ys.length≤sizeLine∧Q ys H)∨
   (J.go i H∧ys.length≤sizeLine∧∃N:List V→St→Hp→Prop,(∀O6 σ' H',N O6 σ' H'→∃m',m'<m∧W (i+1) m' O6 σ' H')∧
     ∀x H',J.HI i H x H'→g x σ H' fun σ2 H2=>tt σ2 H2 fun b H3=>if b=true then te σ2 H3 fun v H4=>N (ys++[v]) σ2 H4 else N ys σ2 H3)
def SQ(is:List Nat)(wi:TI)(g:TG)(tt:TT)(te:TE):TE:=fun σ H Q=>wi σ H fun J H1=>GF g tt te J (fun ys H2=>∀p,H2 p=none→Q (.ref p) (upd H2 p (.lst ys))) (blank is σ) H1
section
variable{P:Program}{w:World}
theorem qz.P8{H:Hp}{h:Heap}{a:Addr}{o:HO}(x:qz P w H h)(hn:H a=none)(new:i8 P w (upd H a o) h a o):qz P w (upd H a o) h:=fun b u q=>by
 by_cases hb:b=a
 · subst hb;rw[b_] at q;cases q;exact new
 · rw[de hb] at q
   exact(x b u q).xC (fun _ _ _ r=>r) (fun c r=>by rw[de (gc r hn)];exact r) fun c xs r=>by rw[de (gc r hn)];exact r
end
abbrev Bt(ys:List Value)(n:Nat):Obj:={cls:=.type "list",data:=.seq ys.toArray n}
section
variable{X:Cx}{pins:List (Addr×Obj)}{σ:St}{H:Hp}{s:Shared}{scope:Scope}{is:List Nat}
theorem AQ{E:Value→Shared→Prop}{elt tg iter:Expr}{ifs:List Expr}{pos:Pos}{it:Addr}{fp:List Addr}{tn:Nat→Heap→Prop}{J:It}{g:TG}{tt:TT}{te:TE}{Fin:List V→Hp→Prop}{RR:Value→Addr→Result→Shared→Prop}
   (I:Inv X pins σ H s) (hc:X.calm=true) (hs:Bs X.N X.env.scope.names is scope.names) (hk:scope.kind=.function)
   (hg:∀C s H ex,PG (X.block scope (jz X.env.cells scope.names []) C s H ex) tg g) (ht:∀C s H ex,M7 (X.block scope (jz X.env.cells scope.names []) C s H ex) ifs tt)
   (he:∀C s H ex,PE (X.block scope (jz X.env.cells scope.names []) C s H ex) elt te)
   (T:Turn X.prog X.w X.K tg J fp it tn) (st:tn 0 s.heap) (hf:∀b∈fp,s_ X pins H b) (h:GF g tt te J Fin (blank is σ) H)
   (hRR:∀(D C:Addr)(ys:List V)(ia:List Value)(n:Nat)(H':Hp)(s':Shared)(m:Str→Option Value),s.heap.objs.size≤D→s.heap.objs.size≤C→D≠C→s'.heap.Ns C m→s'.heap.get? D=some (Bt ia n)→Vals ys ia→ys.length≤sizeLine→
     H' D=none→H' C=none→s'.os=s.os→AllBare s'.gens→Un (qM X.stack) fp H H' s.heap s'.heap→qz X.prog X.w H' s'.heap→Fin ys H'→RR (.ref D) C (.ok .next) s') :
   wpAny (model X.prog X.w) X.A (newList []) (fun acc s3=>wpAny (model X.prog X.w) X.A (newFunctionEnv scope X.env.globals (jz X.env.cells scope.names []) [] X.env.qual none .none (some X.env)) (fun QX s4=>
     codeAny (model X.prog X.w) X.A (.compStart (.ListComp elt [⟨tg,iter,ifs,0⟩] scope pos) 0 (.ref it) acc {QX with scope:=relabel scope X.env}) (RR acc QX.locals) s4) E s3) E s:=by
 refine wpAny_newObj_type (wpAny_newFunctionEnv hs.EB (by intro y hy;simp at hy) (fun h1 Oe Lw=>?_) hk)
 dsimp only at Oe Lw ⊢
 generalize Vn:s.heap.push {cls:=.type "list",dict:=none,data:=.seq ([]:List Value).toArray}=H2 at Oe Lw ⊢
 have hC:H2.objs.size=s.heap.objs.size+1:=by rw[←Vn,Heap.size_push]
 have Lx:s.heap.objs.size≠H2.objs.size:=by rw[hC];exact aaP (abR _)
 have QY:s.heap.objs.size≤H2.objs.size:=by rw[hC];exact Nat.le_succ _
 have below:∀b,b<s.heap.objs.size→b≠H2.objs.size∧b≠s.heap.objs.size:=fun b hb=>⟨by rw[hC];exact aaP (Nat.lt_succ_of_lt hb),aaP hb⟩
 have old:∀b o,s.heap.get? b=some o→h1.get? b=some o:=fun b o e=>Lw.extBut b o (below b (Heap.lt_size e)).1 (Heap.get?_push_of_some _ (Vn▸Heap.get?_push_of_some _ e))
 have u2:h1.get? s.heap.objs.size=some (Bt [] 0):=Lw.extBut _ _ Lx (Heap.get?_push_of_some _ (Vn▸Heap.get?_push_size _ rfl))
 have QZ:∀b∈fp,∃o,s.heap.get? b=some o:=fun b hb=>let ⟨o,e,_⟩:=T.obj 0 _ st b hb;⟨o,e⟩
 have Yn:∀b∈fp,b≠s.heap.objs.size:=fun b hb=>let ⟨o,e⟩:=QZ b hb;(below b (Heap.lt_size e)).2
 have hfC:∀b∈fp,b≠H2.objs.size:=fun b hb=>let ⟨o,e⟩:=QZ b hb;(below b (Heap.lt_size e)).1
 generalize hD:s.heap.objs.size=D at *
 generalize hCC:H2.objs.size=C at *
 have Q0:∀x c,(jz X.env.cells scope.names []).lookup x=some c→c≠D:=fun x c e z=>by
   obtain⟨v,q⟩:=I.cell x c (mi I hs e)
   exact absurd q.lt (by rw[z,hD];exact aa_ _)
 let XB:=X.block scope (jz X.env.cells scope.names []) C s H fp
 have I1:Inv XB [(D,Bt [] 0)] (blank is σ) H {s with heap:=h1,toks:=s.toks+([]:List (Str×Value)).length}:=
   GD I hs hk (by rw[hD];exact QY) hf QZ old Oe fun p hp=>by
     rw[UK.mp hp]
     exact⟨u2,Nat.le_of_eq hD,Lx,fun v z=>nomatch z⟩
 have Vo:∀{pl:List (Addr×Obj)} {H':Hp},(∀p∈pl,p.1=D)→(∀b∈fp,H' b=none)→∀b∈fp,s_ XB pl H' b:=fun{pl H'} pM hn b hb=>
   ⟨hn b hb,hfC b hb,fun hm=>by
     rcases XY.mp (I.vb b hm) with z|z
     · exact(hf b hb).2.1 z
     · exact(hf b hb).2.2.1 z,.inl hb,fun x c e=>(hf b hb).2.2.2.2.1 x c (mi I hs e),fun p hp=>by
     have hp:p∈pl:=by simpa[XB,Cx.block] using hp
     rw[pM p hp]
     exact abq (Yn b hb)⟩
 obtain⟨W,⟨m0,w0⟩,turn⟩:=h
 have Hi:tn 0 h1:=T.keep _ _ _ st fun b _ o e=>old b o e
 have loop:codeAny (model X.prog X.w) X.A (.compLoop (.ListComp elt [⟨tg,iter,ifs,0⟩] scope pos) 0 (.ref it) (.ref D) (compEnvC scope (jz X.env.cells scope.names []) C X.env)) (RR (.ref D) C) {s with heap:=h1,toks:=s.toks+([]:List (Str×Value)).length}:=by
   refine Bq (fun k s'=>∃i ys ia n σ' H',Inv XB [(D,Bt ia n)] σ' H' s'∧Vals ys ia∧tn i s'.heap∧(∀b∈fp,H' b=none)∧W i k ys σ' H') ?_ m0 ⟨0,[],[],0,_,_,I1,.nil,Hi,fun b hb=>(hf b hb).1,w0⟩
   rintro k s3 ⟨i,ys,ia,n,σ3,H3,I3,vs,sy,QP,w3⟩
   have pM:∀p∈[(D,Bt ia n)],p.1=D:=fun p hp=>by rw[UK.mp hp]
   rcases turn i k ys σ3 H3 w3 with⟨stop,hz,qn⟩|⟨go,hz,N,hN,step⟩
   · refine i7 (T.done XB rfl rfl rfl hc i _ s3 σ3 H3 KD I3 (Vo pM QP) sy stop) fun r s4 ⟨hr,I4⟩=>?_
     subst hr
     obtain⟨m',O5,_⟩:=I4.loc
     have pD:=I4.pin (D,Bt ia n) (by simp[XB,Cx.block])
     exact hRR D C ys ia n H3 s4 m' (UU _) QY Lx O5 pD.1 vs hz pD.2.1 I4.free I4.os I4.bare I4.base I4.iK qn
   · refine i7 (T.item XB rfl rfl rfl hc i _ s3 σ3 H3 KD I3 (Vo pM QP) sy go) fun r s4 ⟨u,hr,h4⟩=>?_
     subst hr
     refine i7 h4 fun _ s5 ⟨x,H5,I5,r5,y5,N9,Vb⟩=>?_
     have Vc:=I5.pinned (Vo pM Vb) (T.obj _ _ N9)
     refine i7 (hg C s H fp _ s5 σ3 H5 x u _ Vc r5 (step x H5 y5)) fun _ s6 ⟨σ6,H6,I6,q6⟩=>?_
     have u4:∀{σ7:St} {H7:Hp} {s7:Shared},Inv XB ([(D,Bt ia n)]++yl fp s5.heap) σ7 H7 s7→tn (i+1) s7.heap∧∀b∈fp,H7 b=none:=fun{σ7 H7 s7} I7=>
       ⟨T.keep _ _ _ N9 fun b hb o e=>(I7.pin (b,o) (aaD _ (aaD _ (pS hb e)))).1,fun b hb=>by
         obtain⟨o,e,d⟩:=T.obj _ _ N9 b hb
         exact(I7.pin (b,o) (aaD _ (aaD _ (pS hb e)))).2.1⟩
     refine i7 (ht C s H fp _ s6 σ6 H6 _ I6 q6) fun ok s7 ⟨H7,I7,q7⟩=>?_
     cases ok with
     | false=>
       rw[aak aad] at q7 ⊢
       obtain⟨m',hm,w7⟩:=hN _ _ _ q7
       exact⟨m',hm,i+1,ys,ia,n,σ6,H7,I7.ua,vs,(u4 I7).1,(u4 I7).2,w7⟩
     | true=>
       rw[aar rfl] at q7 ⊢
       refine i7 (he C s H fp _ s7 σ6 H7 _ I7 q7) fun y s8 ⟨v,H8,I8,r8,n8⟩=>?_
       obtain⟨m',hm,w8⟩:=hN _ _ _ n8
       obtain⟨st8,fr8⟩:=u4 I8
       have pD:=I8.pin (D,Bt ia n) (by simp)
       have hl:=vs.length
       refine append_at (hsz:=by show ia.toArray.size≤sizeLine;rw[aag,←hl];exact hz) pD.1 fun h9 Yo e9=>?_
       have I9:Inv XB [] σ6 H8 {s8 with heap:=h9}:=by
         have J8:Inv XB [] σ6 H8 s8:=I8.xZ fun p hp=>nomatch hp
         exact J8.turned (t':=s8.toks) (it:=D) (fun b o hb e=>Yo.extBut b o hb e) pD.2.1 Lx (.inr (Nat.le_of_eq hD)) (fun x c e=>Q0 x c e) fun p hp=>by simp[XB,Cx.block] at hp
       refine⟨m',hm,i+1,ys++[v],ia++[y],n+1,σ6,H8,I9.xZ fun p hp=>?_,vs.append (.cons r8 .nil),T.keep _ _ _ st8 fun b hb o e=>Yo.extBut b o (Yn b hb) e,fr8,w8⟩
       rw[UK.mp hp]
       refine⟨?_,pD.2.1,Lx,fun hm=>?_,fun v z=>nomatch z⟩
       · rw[e9]
         show some _=some _
         rw[List.push_toArray]
       · exact pD.2.2.2.1 hm
 exact codeAny_compStart_list loop (T.self _ 0 _ _ _ Hi loop)
variable{elt tg iter:Expr}{ifs:List Expr}{pos JM py:Pos}{wi:TI}{g:TG}{tt:TT}{te:TE}
theorem wB{D:Addr}{ys:List V}{ia:List Value}{n:Nat}{H':Hp}{s':Shared}{fp:List Addr}(I:Inv X pins σ H s)(hf:∀b∈fp,s_ X pins H b)(hD:s.heap.objs.size≤D)(e:s'.heap.get? D=some (Bt ia n))(vs:Vals ys ia)(hz:ys.length≤sizeLine)
   (nD:H' D=none) (os:s'.os=s.os) (bare:AllBare s'.gens) (un:Un (qM X.stack) fp H H' s.heap s'.heap) (iK:qz X.prog X.w H' s'.heap):Inv X pins σ (upd H' D (.lst ys)) s':=by
 have neD:∀b o,s.heap.get? b=some o→b≠D:=fun b o q=>aaP (aax (Heap.lt_size q) hD)
 refine I.LQ (ch:=fp) os ⟨un.keep,un.slot,fun b o q nn hx=>by rw[de (neD b o q)];exact un.free b o q nn hx,un.there,fun b xs q=>?_,fun b o u q=>?_,fun b ps q=>?_⟩ (iK.P8 nD ⟨hz,ia,n,vs,e⟩) bare fun b hb=>?_
 · have q':=un.pP b xs q
   rw[de (gc q' nD)];exact q'
 · have q':=un.sY b o u q
   rw[de (gc q' nD)];exact q'
 · obtain⟨more,q'⟩:=un.va b ps q
   exact⟨more,by rw[de (gc q' nD)];exact q'⟩
 · obtain⟨f0,f1,f2,f3,f4,f5⟩:=hf b hb
   exact⟨f3,f1,f4,f5⟩
theorem yB{C:Addr}{h':Heap}{s0:Shared}(I:Inv X pins σ H s)(hC:s0.heap.objs.size≤C)(nC:H C=none)(Q1:Heap.SameBut C s.heap h')(I0:∃σ0 H0,Inv X pins σ0 H0 s0):Inv X pins σ H {s with heap:=h'}:=by
 obtain⟨σ0,H0,I0⟩:=I0
 obtain⟨_,f1,_,f3,f4,f5⟩:=I0.yj (H':=fun _=>none) hC rfl
 exact I.turned (t':=s.toks) (fun b o hb e=>Q1.extBut b o hb e) nC f1 f3 f4 f5
theorem uh(N:List Str)(out:List (Str×NameKind))(is:List Nat)(hc:X.calm=true)(hi:PI X tg iter wi)(hk:scope.kind=.function)(hs:GB N out is scope.names=true)
   (hg:∀C s H ex,PG (X.block scope (jz X.env.cells scope.names []) C s H ex) tg g) (ht:∀C s H ex,M7 (X.block scope (jz X.env.cells scope.names []) C s H ex) ifs tt)
   (he:∀C s H ex,∃t,PE (X.block scope (jz X.env.cells scope.names []) C s H ex) elt t∧t=te) (xx:∀x,foldedSetIterable iter X.env x=pure x:=by intro _;rfl) (eN:X.N=N:=by rfl) (eo:X.env.scope.names=out:=by rfl) :
   PE X (.ListComp elt [⟨tg,iter,ifs,0⟩] scope pos) (SQ is wi g tt te):=by
 intro pins s σ H Q I h
 subst eN eo
 have S:=Bs.of hs
 rw[eval_ListComp]
 refine wpAny_comprehension_free (use:=none) rfl xx (sH (yA I S)) hk S.loc (i7 (hi pins s σ H _ I h) fun v s1 h1=>i7 h1 fun S5 s2 h2=>?_)
 obtain⟨it,fp,tn,J,H2,rfl,I2,T,As,f2,h2⟩:=h2
 refine AQ (RR:=fun acc C=>compPost (model X.prog X.w) X.A X.xe none (EP X pins σ Q) acc C) I2 hc S hk hg ht (fun C s H ex=>let ⟨_,h,e⟩:=he C s H ex;PE.eqv h e) T As f2 h2 ?_
 intro D C ys ia n H' s' m hD hC Lx hn e vs hz nD nC os bare un iK q
 have J1:Inv X pins σ (upd H' D (.lst ys)) s':=wB I2 f2 hD e vs hz nD os bare un iK
 refine⟨m,hn,fun h' Q1=>⟨.ref D,_,yB J1 hC (by rw[de (abq Lx)];exact nC) Q1 ⟨_,_,I2⟩,rfl,q D nD⟩⟩
theorem C3{y:Str}{j:Nat}(N:List Str)(out:List (Str×NameKind))(is:List Nat)(hN:X.N.Nodup)(hj:X.N[j]?=some y)(hy:X.env.scope.names.lookup y=some .local)(hc:X.calm=true)(hi:PI X tg iter wi)(hk:scope.kind=.function)(hs:GB N out is scope.names=true)
   (hg:∀C s H ex,PG (X.block scope (jz X.env.cells scope.names []) C s H ex) tg g) (ht:∀C s H ex,M7 (X.block scope (jz X.env.cells scope.names []) C s H ex) ifs tt)
   (he:∀C s H ex,∃t,PE (X.block scope (jz X.env.cells scope.names []) C s H ex) elt t∧t=te)
   (Vp:swapsWith (.ListComp elt [⟨tg,iter,ifs,0⟩] scope pos) (some (.Name y py)) JM.line X.env=pure true:=by rfl) (xx:∀x,foldedSetIterable iter X.env x=pure x:=by intro _;rfl) (eN:X.N=N:=by rfl) (eo:X.env.scope.names=out:=by rfl) :
   PS X (.Assign [.Name y py] (.ListComp elt [⟨tg,iter,ifs,0⟩] scope pos) JM) (Km (SQ is wi g tt te) (Fn j)):=by
 intro pins s σ H Dn I h
 subst eN eo
 have S:=Bs.of hs
 rw[exec_Assign_Name_used _ _ _ _ Vp]
 refine wpAny_bind (wpAny_standAt (wpAny_bind ?_))
 show wpAny _ _ (do let _ ←comprehension (.ListComp elt [⟨tg,iter,ifs,0⟩] scope pos) scope X.env _ (newList []) false (eval iter X.env) (some (assign (.Name y py) X.env))) _ _ s
 refine wpAny_bind (wpAny_mono (wpAny_comprehension_free (use:=some (assign (.Name y py) X.env)) (Q:=fun _ s'=>SP X pins Dn .next s') rfl xx (sH (yA I S)) hk S.loc
   (i7 (hi pins s σ H _ I h) fun v s1 h1=>i7 h1 fun S5 s2 h2=>?_)) (fun _ s' hq=>wpAny_pure (wpAny_pure hq)) fun _ _ e=>e)
 obtain⟨it,fp,tn,J,H2,rfl,I2,T,As,f2,h2⟩:=h2
 refine AQ (RR:=fun acc C=>compPost (model X.prog X.w) X.A X.xe (some (assign (.Name y py) X.env)) (fun _ s'=>SP X pins Dn .next s') acc C) I2 hc S hk hg ht (fun C s H ex=>let ⟨_,h,e⟩:=he C s H ex;PE.eqv h e) T As f2 h2 ?_
 intro D C ys ia n H' s' m hD hC Lx hn e vs hz nD nC os bare un iK q
 have J1:Inv X pins σ (upd H' D (.lst ys)) s':=wB I2 f2 hD e vs hz nD os bare un iK
 show wpAny _ _ (assign (.Name y py) X.env (.ref D)) _ _ _
 refine wpAny_assign_Name (Az J1 hN hj (.inl hy) (v:=.ref D) rfl (fun s5 J5 ⟨a,sb,ha⟩=>?_) (.inr hy))
 have hCa:C≠a:=by
   obtain⟨_,f1,_,f3,f4,f5⟩:=I2.yj (H':=fun _=>none) hC rfl
   rcases ha with z|z
   · rw[z];exact f1
   · exact fun q=>f4 _ _ z q.symm
 exact⟨m,hn.sameBut sb hCa,fun h' Q1=>⟨_,_,yB J5 hC (by rw[de (abq Lx)];exact nC) Q1 ⟨_,_,I2⟩,q D nD⟩⟩
end
section
variable{X:Cx}{elt tg iter:Expr}{ifs:List Expr}{scope:Scope}{pos:Pos}{wi:TI}{g:TG}{tt:TT}{te:TE}{py JM:Pos}
theorem yC(N:List Str)(out:List (Str×NameKind))(is:List Nat)(hc:X.calm=true)(hi:PI X tg iter wi)(hk:scope.kind=.function)(hs:GB N out is scope.names=true)
   (hg:∀C s H ex,PG (X.block scope (jz X.env.cells scope.names []) C s H ex) tg g) (ht:∀C s H ex,∃t,M7 (X.block scope (jz X.env.cells scope.names []) C s H ex) ifs t∧t=tt)
   (he:∀C s H ex,∃t,PE (X.block scope (jz X.env.cells scope.names []) C s H ex) elt t∧t=te) (xx:∀x,foldedSetIterable iter X.env x=pure x:=by intro _;rfl) (eN:X.N=N:=by rfl) (eo:X.env.scope.names=out:=by rfl) :
   PE X (.ListComp elt [⟨tg,iter,ifs,0⟩] scope pos) (SQ is wi g tt te):=uh N out is hc hi hk hs hg (fun C s H ex=>let ⟨_,h,e⟩:=ht C s H ex;e▸h) he xx eN eo
theorem vp{y:Str}{j:Nat}(N:List Str)(out:List (Str×NameKind))(is:List Nat)(hN:X.N.Nodup)(hj:X.N[j]?=some y)(hy:X.env.scope.names.lookup y=some .local)(hc:X.calm=true)(hi:PI X tg iter wi)(hk:scope.kind=.function)(hs:GB N out is scope.names=true)
   (hg:∀C s H ex,PG (X.block scope (jz X.env.cells scope.names []) C s H ex) tg g) (ht:∀C s H ex,∃t,M7 (X.block scope (jz X.env.cells scope.names []) C s H ex) ifs t∧t=tt)
   (he:∀C s H ex,∃t,PE (X.block scope (jz X.env.cells scope.names []) C s H ex) elt t∧t=te)
   (Vp:swapsWith (.ListComp elt [⟨tg,iter,ifs,0⟩] scope pos) (some (.Name y py)) JM.line X.env=pure true:=by rfl) (xx:∀x,foldedSetIterable iter X.env x=pure x:=by intro _;rfl) (eN:X.N=N:=by rfl) (eo:X.env.scope.names=out:=by rfl) :
   PS X (.Assign [.Name y py] (.ListComp elt [⟨tg,iter,ifs,0⟩] scope pos) JM) (Km (SQ is wi g tt te) (Fn j)):=C3 N out is hN hj hy hc hi hk hs hg (fun C s H ex=>let ⟨_,h,e⟩:=ht C s H ex;e▸h) he Vp xx eN eo
end
theorem ui{lo:Int}{n:Nat}{g:TG}{tt:TT}{te:TE}{Q:List V→Hp→Prop}{σ:St}{H:Hp}(hn:n≤sizeLine)(Pv:Nat→List V→St→Hp→Prop)(h0:Pv 0 [] σ H)(hlen:∀i ys σ H,Pv i ys σ H→ys.length≤i)
   (hs:∀i ys σ H,i<n→Pv i ys σ H→g (.int (lo+i)) σ H fun σ2 H2=>tt σ2 H2 fun b H3=>if b=true then te σ2 H3 fun v H4=>Pv (i+1) (ys++[v]) σ2 H4 else Pv (i+1) ys σ2 H3)
   (hd:∀ys σ H,Pv n ys σ H→Q ys H):GF g tt te (LR lo n) Q σ H:=by
 refine⟨fun i m ys σ H=>m=n-i∧i≤n∧Pv i ys σ H,⟨n,by simp,aaE _,h0⟩,?_⟩
 rintro i m ys σ H ⟨rfl,hi,p⟩
 have hl:=hlen i ys σ H p
 by_cases lu:i<n
 · refine .inr ⟨lu,by omega,Pv (i+1),fun O6 σ' H' p'=>⟨n-(i+1),by omega,rfl,lu,p'⟩,fun x H' y=>?_⟩
   obtain⟨rfl,rfl⟩:=y
   exact hs i ys σ _ lu p
 · have e:i=n:=by omega
   subst e
   exact .inl ⟨UU _,by omega,hd ys σ H p⟩
theorem jP{K:PySem.W.Frag}{a:Addr}{xs:List V}{g:TG}{tt:TT}{te:TE}{Q:List V→Hp→Prop}{σ:St}{H:Hp}(hn:xs.length≤sizeLine)(Pv:Nat→List V→St→Hp→Prop)(h0:Pv 0 [] σ H)(hl:∀i ys σ H,i≤xs.length→Pv i ys σ H→g_ K H a xs∧ys.length≤i)
   (hs:∀i x ys σ H,xs[i]?=some x→Pv i ys σ H→g x σ H fun σ2 H2=>tt σ2 H2 fun b H3=>if b=true then te σ2 H3 fun v H4=>Pv (i+1) (ys++[v]) σ2 H4 else Pv (i+1) ys σ2 H3)
   (hd:∀ys σ H,Pv xs.length ys σ H→Q ys H):GF g tt te (OV K a) Q σ H:=by
 refine⟨fun i m ys σ H=>m=xs.length-i∧i≤xs.length∧Pv i ys σ H,⟨xs.length,by simp,aaE _,h0⟩,?_⟩
 rintro i m ys σ H ⟨rfl,hi,p⟩
 obtain⟨q,hy⟩:=hl i ys σ H hi p
 by_cases lu:i<xs.length
 · refine .inr ⟨⟨xs,xs[i],q,by simp[lu]⟩,by omega,Pv (i+1),fun O6 σ' H' p'=>⟨xs.length-(i+1),by omega,rfl,lu,p'⟩,fun x H' y=>?_⟩
   obtain⟨rfl,y⟩:=y
   exact hs i x ys σ _ (y xs q) p
 · have e:i=xs.length:=by omega
   subst e
   exact .inl ⟨⟨xs,q,UU _⟩,by omega,hd ys σ H p⟩
end L2
namespace PySem
section
variable{prog:Program}{w:World}{A:Around}{E:Value→Shared→Prop}{s:Shared}
end
end PySem
namespace L2
open PySem PySem.Spec PyProof.Rows
def P9(lo st:Int)(n:Nat):It:=⟨fun i _=>i<n,fun i H x H'=>H'=H∧x=.int (lo+i*st),fun i _=>n≤i⟩
theorem C4{P:Program}{w:World}{K:PySem.W.Frag}{tg:Expr}(it:Addr)(lo st:Int)(n:Nat):Turn P w K tg (P9 lo st n) [it] it (fun i h=>IsRangeIter h it (lo+(i:Nat)*st) ((n:Int)-(i:Nat)) st) where
 mem:=by simp
 obj:=fun i h st b hb=>by
   have e:b=it:=by simpa using hb
   subst e
   exact⟨_,st,fun v z=>by
     have z':Data.fields _=Data.cell v:=z
     cases z'⟩
 keep:=fun i h h' st k=>k it (by simp) _ st
 item:=by
   intro X hP hw hK hc i pins s σ H E I hf stt hg
   subst hP hw hK
   obtain⟨f0,f1,f2,f3,f4,f5⟩:=hf it (by simp)
   have W:=Walks.range (prog:=X.prog) (w:=X.w) (I.ok.hd hc) it lo st n
   refine W.item i s _ _ hg stt fun v h' tk hv Ar kk=>?_
   obtain⟨t,rfl⟩:=hv
   have I1:Inv X pins σ H {s with heap:=h',toks:=tk}:=I.turned (fun b o hb e=>kk b o (by simpa using hb) e) f0 f1 f3 f4 f5
   exact⟨_,rfl,yk (s:={s with heap:=h',toks:=tk}) (n:="range_iterator") Ar rfl rfl (by decide) ⟨.int (lo+i*st),H,I1,⟨t,rfl⟩,⟨rfl,rfl⟩,Ar,fun b hb=>(hf b hb).1⟩⟩
 done:=by
   intro X hP hw hK hc i pins s σ H E I hf st hg
   subst hP hw hK
   obtain⟨f0,f1,f2,f3,f4,f5⟩:=hf it (by simp)
   exact wpAny_pyNext_range_end (I.ok.hd hc) st (by have:n≤i:=hg;omega) fun h' eb=>⟨rfl,I.turned (t':=s.toks) (fun b o hb e=>eb b o hb e) f0 f1 f3 f4 f5⟩
 self:=fun _ _ _ _ _ st h=>wpAny_pyIter_rangeiter st h
theorem rangeSize_down(a b:Int):Builtin.Range.rangeSize a b (-1)=((a-b).toNat:Int):=by
 unfold Builtin.Range.rangeSize
 simp only [show ¬((-1:Int)>0) by decide,abJ]
 have e:(- -1:Int)=1:=by decide
 rw[e,Int.ediv_one]
 split<;>omega
theorem small_down{a b:Int}(ha:-(2 ^ 61)≤a)(ha':a<2 ^ 61)(hb:-(2 ^ 61)≤b)(hb':b<2 ^ 61):Builtin.Range.small a b (-1)=true:=by
 unfold Builtin.Range.small
 rw[rangeSize_down]
 simp only [Builtin.Range.rangeFitsLong,aaX,abW,abx,abF,show ¬((-1:Int)>0) by decide,abJ]
 omega
section
variable{X:Cx}{tg:Expr}
def P_(ta:TA):TI:=fun σ H R=>ta σ H fun vs H1=>∃i j:Int,vs=[.int i,.int j,.int (-1)]∧(-(2 ^ 61)≤i∧i<2 ^ 61∧-(2 ^ 61)≤j∧j<2 ^ 61)∧R (P9 i (-1) (i-j).toNat) H1
theorem vq{a b c:Expr}{ta:TA}{p pos:Pos}(hg:Gl X "range")(hm:X.mg "range"=none)(ha:PA X [a,b,c] ta)(hs:starEach [a,b,c] X.env=[(false,eval a X.env),(false,eval b X.env),(false,eval c X.env)]:=by rfl)
   (Hx:starEach [b,c] X.env=[(false,eval b X.env),(false,eval c X.env)]:=by rfl):PI X tg (.Call (.Name "range" p) [a,b,c] [] pos) (P_ ta):=by
 intro pins s σ H R I h
 refine Call_ (oO I hg hm boot_range (aaR (i7 (ha pos pins s σ H _ I h) fun us s1 ⟨vs,H1,I1,r1,q1⟩=>?_) (by rw[hs,Hx]) (by rw[Hx];rfl)))
 obtain⟨i,j,e,⟨q1,q2,q3,q4⟩,q⟩:=q1
 subst e
 cases r1 with
 | cons r rr=>
   cases rr with
   | cons r' rr=>
     cases rr with
     | cons r'' rr=>
       cases rr
       obtain⟨t,rfl⟩:=r
       obtain⟨t',rfl⟩:=r'
       obtain⟨Yp,rfl⟩:=r''
       refine call_range_3 (by decide) ?_ (Or.inl (PyProof.noPylong_small (by decide)))
       refine wpAny_pyIter_range (IsRange.new ..) (small_down q1 q2 q3 q4) ?_
       generalize ho:({cls:=.type "range",data:=.fields #[.int i t,.int j t',.int (-1) Yp]}:Obj)=o
       have I2:Inv X pins σ H1 {s1 with heap:=s1.heap.push o,toks:=s1.toks}:=I1.kept fun b o e=>Heap.get?_push_of_some _ e
       refine⟨(s1.heap.push o).objs.size,[(s1.heap.push o).objs.size],_,_,H1,rfl,I2.kept (t':=s1.toks) fun b o e=>Heap.get?_push_of_some _ e,C4 _ i (-1) (i-j).toNat,?_,fun b hb=>?_,q⟩
       · show IsRangeIter _ _ (i+((0:Nat):Int)*(-1)) ((((i-j).toNat:Nat):Int)-((0:Nat):Int)) (-1)
         have e1:i+((0:Nat):Int)*(-1)=i:=by simp
         have e2:(((i-j).toNat:Nat):Int)-((0:Nat):Int)=Builtin.Range.rangeSize i j (-1):=by rw[rangeSize_down];simp
         rw[e1,e2]
         exact Heap.get?_push_size _ rfl
       · have e:b=(s1.heap.push o).objs.size:=by simpa using hb
         subst e
         exact I2.yj (UU _) (I2.iK.fresh (UU _))
end
theorem tq{lo st:Int}{n:Nat}{g:TG}{tb:TS}{D:Ends}{σ:St}{H:Hp}(Pv:Nat→St→Hp→Prop)(h0:Pv 0 σ H)
   (hs:∀i σ H,i<n→Pv i σ H→g (.int (lo+i*st)) σ H fun σ2 H2=>tb {D with nx:=Pv (i+1),ct:=Pv (i+1),bk:=D.nx} σ2 H2) (hd:∀σ H,Pv n σ H→D.nx σ H) :
   ∃W:Nat→Nat→St→Hp→Prop,(∃m,W 0 m σ H)∧∀i m σ H,W i m σ H→
     ((P9 lo st n).stop i H∧D.nx σ H)∨((P9 lo st n).go i H∧∃N:St→Hp→Prop,(∀σ' H',N σ' H'→∃m',m'<m∧W (i+1) m' σ' H')∧∀x H',(P9 lo st n).HI i H x H'→g x σ H' fun σ2 H2=>tb {D with nx:=N,ct:=N,bk:=D.nx} σ2 H2):=by
 refine⟨fun i m σ H=>m=n-i∧i≤n∧Pv i σ H,⟨n,by simp,aaE _,h0⟩,?_⟩
 rintro i m σ H ⟨rfl,hi,p⟩
 by_cases lu:i<n
 · refine .inr ⟨lu,Pv (i+1),fun σ' H' p'=>⟨n-(i+1),by omega,rfl,lu,p'⟩,fun x H' y=>?_⟩
   obtain⟨e,y⟩:=y
   subst e y
   exact hs i σ _ lu p
 · have e:i=n:=by omega
   subst e
   exact .inl ⟨UU _,hd σ H p⟩
section
variable{X:Cx}
theorem wC:ub X (.builtin "isinstance") (fun xs H Q=>∃x T t b,xs=[x,.ty T]∧ve X.K H x t∧PySem.W.kitOne X.K t (.type T)=some b∧Q (.bl b) H):=by
 intro pins s σ H xs us Q I r h
 obtain⟨x,T,t,b,rfl,ty,e,q⟩:=h
 obtain⟨u,u',rfl,ru,ru'⟩:=vals2 r
 cases (show u'=Value.type T from ru')
 exact Gu I ru ty e fun tk=>⟨.bl b,H,I.tok tk,rfl,q⟩
theorem yD:∀{xs:List Str} {us:List Value},Vals (xs.map V.str) us→StrsAre us xs
 | [],_,h=>by cases h;exact .nil
 | x::r,_,h=>by
   cases h with
   | cons a t=>
     obtain⟨tk,rfl⟩:=a
     exact .cons x tk (yD t)
def rJoin(K:PySem.W.Frag):V→List V→Hp→VK→Prop:=fun x vs H Q=>∃z l xs,x=.str z∧vs=[.ref l]∧g_ K H l (xs.map V.str)∧(xs.map (·.length)).sum+xs.length*z.length≤16777216∧Q (.str (Txt.join z xs)) H
theorem KG:Ut X "str.join" (rJoin X.K):=by
 intro pins s σ H x xs v us Q I rx r h
 obtain⟨z,l,ys,rfl,rfl,hl,hz,q⟩:=h
 obtain⟨u,rfl,ru⟩:=vals1 r
 cases ru
 obtain⟨t,rfl⟩:=rx
 obtain⟨ia,rv,p,_⟩:=I.list hl
 exact join_list p.isList (by simpa using yD rv) hz fun t' k=>⟨.str _,H,I.tok k,⟨t',rfl⟩,q⟩
end
inductive og(K:PySem.W.Frag)(H:Hp):Nat→V→V→Bool→Prop
 | flat {n x y} (fx:lA x=true) (fy:lA y=true):og K H n x y (Gw x y)
 | lists {n a c xs ys} {e:Nat→Bool} (h1:g_ K H a xs) (h2:g_ K H c ys) (hl:xs.length=ys.length) (he:∀(j:Nat) u v,xs[j]?=some u→ys[j]?=some v→og K H n u v (e j)):og K H (n+1) (.ref a) (.ref c) ((List.range xs.length).all e)
 | Ih {n a c xs ys} (h1:g_ K H a xs) (h2:g_ K H c ys) (hl:xs.length≠ys.length):og K H n (.ref a) (.ref c) false
 | pP {n a c xs ys} {e:Nat→Bool} (h1:u_ K H a xs) (h2:u_ K H c ys) (he:∀(j:Nat) u v,xs[j]?=some u→ys[j]?=some v→og K H n u v (e j)):og K H (n+1) (.ref a) (.ref c) ((List.range (min xs.length ys.length)).all e&&xs.length ==ys.length)
 | vt {n a xs y} (h1:g_ K H a xs) (fy:lA y=true):og K H n (.ref a) y false
 | vw {n a xs y} (h1:g_ K H a xs) (fy:lA y=true):og K H n y (.ref a) false
 | yE {n a xs y} (h1:u_ K H a xs) (fy:lA y=true):og K H n (.ref a) y false
 | yF {n a xs y} (h1:u_ K H a xs) (fy:lA y=true):og K H n y (.ref a) false
 | yG {n a c xs ys} (h1:g_ K H a xs) (h2:u_ K H c ys):og K H n (.ref a) (.ref c) false
 | yH {n a c xs ys} (h1:u_ K H a xs) (h2:g_ K H c ys):og K H n (.ref a) (.ref c) false
theorem Ii:∀{x:V},lA x=true→Gw x x=true:=by
 intro x h
 cases x<;>simp[lA,Gw] at *
section
variable{X:Cx}{pins:List (Addr×Obj)}{σ:St}{H:Hp}{s:Shared}
theorem Inv.LY{a c:Addr}{xs ys:List V}(I:Inv X pins σ H s)(h1:g_ X.K H a xs)(h2:u_ X.K H c ys):a≠c:=by
 obtain⟨ia,_,p,_⟩:=I.list h1
 obtain⟨lQ,_,p2,_⟩:=I.tuple h2
 exact SeqAt.ne_of_list_tuple p.isList (show s.heap.IsTuple c lQ.toArray from p2)
theorem og.self{n:Nat}{x y:V}{b:Bool}(I:Inv X pins σ H s)(h:og X.K H n x y b):x=y→b=true:=by
 induction h with
 | flat fx fy=>intro e;subst e;exact Ii fx
 | lists h1 h2 hl he ih=>
   intro e
   cases e
   have:=I.o4 h1 h2
   subst this
   refine abn.mpr fun j hj=>?_
   have hj:=abQ.mp hj
   exact ih j _ _ (UN hj) (UN hj) rfl
 | Ih h1 h2 hl=>intro e;cases e;exact absurd (aaW List.length (I.o4 h1 h2)) hl
 | pP h1 h2 he ih=>
   intro e
   cases e
   have:=I.Gm h1 h2
   subst this
   rw[aaX]
   refine⟨abn.mpr fun j hj=>?_,by simp⟩
   have hj:=abQ.mp hj
   rw[Nat.min_self] at hj
   exact ih j _ _ (UN hj) (UN hj) rfl
 | vt h1 fy=>intro e;subst e;exact absurd (show false=true from fy) aad
 | vw h1 fy=>intro e;subst e;exact absurd (show false=true from fy) aad
 | yE h1 fy=>intro e;subst e;exact absurd (show false=true from fy) aad
 | yF h1 fy=>intro e;subst e;exact absurd (show false=true from fy) aad
 | yG h1 h2=>intro e;cases e;exact absurd rfl (I.LY h1 h2)
 | yH h1 h2=>intro e;cases e;exact absurd rfl (I.LY h2 h1)
theorem pU{y:V}{v:Value}(r:RelV y v)(f:lA y=true):v=.none∨(∃b,v=.bool b)∨(∃i t,v=.int i t)∨∃x t,v=.str x t:=by
 cases y with
 | jx=>exact .inl r
 | bl b=>exact .inr (.inl ⟨b,r⟩)
 | int i=>obtain⟨t,e⟩:=r;exact .inr (.inr (.inl ⟨i,t,e⟩))
 | str x=>obtain⟨t,e⟩:=r;exact .inr (.inr (.inr ⟨x,t,e⟩))
 | _=>exact absurd (show false=true from f) aad
theorem oh{xs:List V}{ia:List Value}(rv:Vals xs ia){j:Nat}(h:j<ia.toArray.size):∃x,xs[j]?=some x∧RelV x ia.toArray[j]:=by
 have hl:=rv.length
 have hj:j<ia.length:=by simpa using h
 have hx:j<xs.length:=by omega
 obtain⟨u,hu,ru⟩:=rv.get (UN hx)
 refine⟨xs[j],UN hx,?_⟩
 rw[UN hj] at hu
 cases hu
 simpa using ru
theorem og.at{n:Nat}{x y:V}{b:Bool}(I:Inv X pins σ H s)(h:og X.K H n x y b):∀(A:Around)(u v:Value),RelV x u→RelV y v→A.units+n<cLine→SeqAt.EqAt A s u v b:=by
 induction h with
 | flat fx fy=>intro A u v ru rv _;exact HS ru rv fx fy
 | @lists n a c xs ys e h1 h2 hl he ih=>
   intro A u v ru rv hu
   cases ru;cases rv
   by_cases Q2:a=c
   · subst Q2
     have hb:=og.self I (og.lists h1 h2 hl he) rfl
     rw[hb]
     exact SeqAt.EqAt.same _
   · obtain⟨ia,r1,p1,_⟩:=I.list h1
     obtain⟨lQ,r2,p2,_⟩:=I.list h2
     have l1:=r1.length
     have l2:=r2.length
     refine SeqAt.EqAt.of_refs Q2 ?_
     have q:=SeqAt.RcAt.lists (A:=A) (e:=e) p1.isList p2.isList (by simp;omega) (by omega) fun j g1 g2=>by
       obtain⟨x,ex,rx⟩:=oh r1 g1
       obtain⟨y,ey,ry⟩:=oh r2 g2
       exact ih j x y ex ey A.in1 _ _ rx ry (by show A.units+1+n<cLine;omega)
     rw[aag,←l1] at q
     exact q
 | @Ih n a c xs ys h1 h2 hl=>
   intro A u v ru rv hu
   cases ru;cases rv
   obtain⟨ia,r1,p1,_⟩:=I.list h1
   obtain⟨lQ,r2,p2,_⟩:=I.list h2
   have l1:=r1.length
   have l2:=r2.length
   refine SeqAt.EqAt.of_refs (fun e=>?_) (SeqAt.RcAt.lists_lengths p1.isList p2.isList (by simp;omega) (by omega))
   subst e
   exact hl (aaW List.length (I.o4 h1 h2))
 | @pP n a c xs ys e h1 h2 he ih=>
   intro A u v ru rv hu
   cases ru;cases rv
   by_cases Q2:a=c
   · subst Q2
     have hb:=og.self I (og.pP h1 h2 he) rfl
     rw[hb]
     exact SeqAt.EqAt.same _
   · obtain⟨ia,r1,p1,_⟩:=I.tuple h1
     obtain⟨lQ,r2,p2,_⟩:=I.tuple h2
     have l1:=r1.length
     have l2:=r2.length
     refine SeqAt.EqAt.of_refs Q2 ?_
     have q:=SeqAt.RcAt.tuples (A:=A) (e:=e) (show s.heap.IsTuple a ia.toArray from p1) (show s.heap.IsTuple c lQ.toArray from p2) (by omega) fun j g1 g2=>by
       obtain⟨x,ex,rx⟩:=oh r1 g1
       obtain⟨y,ey,ry⟩:=oh r2 g2
       exact ih j x y ex ey A.in1 _ _ rx ry (by show A.units+1+n<cLine;omega)
     rw[aag,aag,←l1,←l2] at q
     exact q
 | @vt n a xs y h1 fy=>
   intro A u v ru rv hu
   cases ru
   obtain⟨ia,r1,p1,_⟩:=I.list h1
   rcases pU rv fy with rfl|⟨b,rfl⟩|⟨i,t,rfl⟩|⟨x,t,rfl⟩
   · exact .list_none p1.isList (by omega)
   · exact .list_bool b p1.isList (by omega)
   · exact .list_int i t p1.isList (by omega)
   · exact .list_str x t p1.isList (by omega)
 | @vw n a xs y h1 fy=>
   intro A u v ru rv hu
   cases rv
   obtain⟨ia,r1,p1,_⟩:=I.list h1
   rcases pU ru fy with rfl|⟨b,rfl⟩|⟨i,t,rfl⟩|⟨x,t,rfl⟩
   · exact .none_list p1.isList (by omega)
   · exact .bool_list b p1.isList (by omega)
   · exact .int_list i t p1.isList (by omega)
   · exact .str_list x t p1.isList (by omega)
 | @yE n a xs y h1 fy=>
   intro A u v ru rv hu
   cases ru
   obtain⟨ia,r1,p1,_⟩:=I.tuple h1
   have p1:s.heap.IsTuple a ia.toArray:=p1
   rcases pU rv fy with rfl|⟨b,rfl⟩|⟨i,t,rfl⟩|⟨x,t,rfl⟩
   · exact .tuple_none p1 (by omega)
   · exact .tuple_bool b p1 (by omega)
   · exact .tuple_int i t p1 (by omega)
   · exact .tuple_str x t p1 (by omega)
 | @yF n a xs y h1 fy=>
   intro A u v ru rv hu
   cases rv
   obtain⟨ia,r1,p1,_⟩:=I.tuple h1
   have p1:s.heap.IsTuple a ia.toArray:=p1
   rcases pU ru fy with rfl|⟨b,rfl⟩|⟨i,t,rfl⟩|⟨x,t,rfl⟩
   · exact .none_tuple p1 (by omega)
   · exact .bool_tuple b p1 (by omega)
   · exact .int_tuple i t p1 (by omega)
   · exact .str_tuple x t p1 (by omega)
 | @yG n a c xs ys h1 h2=>
   intro A u v ru rv hu
   cases ru;cases rv
   obtain⟨ia,r1,p1,_⟩:=I.list h1
   obtain⟨lQ,r2,p2,_⟩:=I.tuple h2
   exact .list_tuple p1.isList (show s.heap.IsTuple c lQ.toArray from p2) (by omega)
 | @yH n a c xs ys h1 h2=>
   intro A u v ru rv hu
   cases ru;cases rv
   obtain⟨ia,r1,p1,_⟩:=I.tuple h1
   obtain⟨lQ,r2,p2,_⟩:=I.list h2
   exact .tuple_list (show s.heap.IsTuple a ia.toArray from p1) p2.isList (by omega)
def M8(x y:V):Prop:=∃a c,x=.ref a∧y=.ref c
theorem og.rc{n:Nat}{x y:V}{b:Bool}{A:Around}{u v:Value}(I:Inv X pins σ H s)(h:og X.K H n x y b)(sq:M8 x y)(ru:RelV x u)(rv:RelV y v)(hu:A.units+n+1<cLine):SeqAt.RcAt A s u v b∧SeqAt.RcNeAt A s u v (!b):=by
 obtain⟨a0,c0,rfl,rfl⟩:=sq
 cases ru;cases rv
 cases h with
 | flat fx fy=>exact absurd (show false=true from fx) aad
 | @lists n a c xs ys e h1 h2 hl he=>
   obtain⟨ia,r1,p1,_⟩:=I.list h1
   obtain⟨lQ,r2,p2,_⟩:=I.list h2
   have l1:=r1.length
   have l2:=r2.length
   have el:∀j (g1:j<ia.toArray.size) (g2:j<lQ.toArray.size),SeqAt.EqAt A.in1 s ia.toArray[j] lQ.toArray[j] (e j):=fun j g1 g2=>by
     obtain⟨x,ex,rx⟩:=oh r1 g1
     obtain⟨y,ey,ry⟩:=oh r2 g2
     exact(he j x y ex ey).at I A.in1 _ _ rx ry (by show A.units+1+n<cLine;omega)
   have q:=SeqAt.RcAt.lists (A:=A) (e:=e) p1.isList p2.isList (by simp;omega) (by omega) el
   have q':=SeqAt.RcNeAt.lists (A:=A) (e:=e) p1.isList p2.isList (by simp;omega) (by omega) el
   rw[aag,←l1] at q q'
   exact⟨q,q'⟩
 | @Ih n a c xs ys h1 h2 hl=>
   obtain⟨ia,r1,p1,_⟩:=I.list h1
   obtain⟨lQ,r2,p2,_⟩:=I.list h2
   have l1:=r1.length
   have l2:=r2.length
   exact⟨SeqAt.RcAt.lists_lengths p1.isList p2.isList (by simp;omega) (by omega),SeqAt.RcNeAt.lists_lengths p1.isList p2.isList (by simp;omega) (by omega)⟩
 | @pP n a c xs ys e h1 h2 he=>
   obtain⟨ia,r1,p1,_⟩:=I.tuple h1
   obtain⟨lQ,r2,p2,_⟩:=I.tuple h2
   have l1:=r1.length
   have l2:=r2.length
   have el:∀j (g1:j<ia.toArray.size) (g2:j<lQ.toArray.size),SeqAt.EqAt A.in1 s ia.toArray[j] lQ.toArray[j] (e j):=fun j g1 g2=>by
     obtain⟨x,ex,rx⟩:=oh r1 g1
     obtain⟨y,ey,ry⟩:=oh r2 g2
     exact(he j x y ex ey).at I A.in1 _ _ rx ry (by show A.units+1+n<cLine;omega)
   have q:=SeqAt.RcAt.tuples (A:=A) (e:=e) (show s.heap.IsTuple a0 ia.toArray from p1) (show s.heap.IsTuple c0 lQ.toArray from p2) (by omega) el
   have q':=SeqAt.RcNeAt.tuples (A:=A) (e:=e) (show s.heap.IsTuple a0 ia.toArray from p1) (show s.heap.IsTuple c0 lQ.toArray from p2) (by omega) el
   rw[aag,aag,←l1,←l2] at q q'
   exact⟨q,q'⟩
 | vt h1 fy=>exact absurd (show false=true from fy) aad
 | vw h1 fy=>exact absurd (show false=true from fy) aad
 | yE h1 fy=>exact absurd (show false=true from fy) aad
 | yF h1 fy=>exact absurd (show false=true from fy) aad
 | @yG n a c xs ys h1 h2=>
   obtain⟨ia,r1,p1,_⟩:=I.list h1
   obtain⟨lQ,r2,p2,_⟩:=I.tuple h2
   exact⟨.list_tuple p1.isList (show s.heap.IsTuple c0 lQ.toArray from p2) (by omega),.list_tuple p1.isList (show s.heap.IsTuple c0 lQ.toArray from p2) (by omega)⟩
 | @yH n a c xs ys h1 h2=>
   obtain⟨ia,r1,p1,_⟩:=I.tuple h1
   obtain⟨lQ,r2,p2,_⟩:=I.list h2
   exact⟨.tuple_list (show s.heap.IsTuple a0 ia.toArray from p1) p2.isList (by omega),.tuple_list (show s.heap.IsTuple a0 ia.toArray from p1) p2.isList (by omega)⟩
end
section
variable{X:Cx}
def UI(K:PySem.W.Frag)(n:Nat):R2:=fun x y H Q=>∃b,M8 x y∧og K H n x y b∧Q (.bl b) H
def UJ(K:PySem.W.Frag)(n:Nat):R2:=fun x y H Q=>∃b,M8 x y∧og K H n x y b∧Q (.bl (!b)) H
theorem Bu(n:Nat)(hu:X.A.units+n+1<cLine):wu X (compareOp .Eq) (UI X.K n):=by
 intro pins s σ H x y u v Q I rx ry h
 obtain⟨b,sq,e,q⟩:=h
 exact(e.rc I sq rx ry hu).1 X.prog X.w X.xe _ ⟨.bl b,H,I,rfl,q⟩
theorem Ij(n:Nat)(hu:X.A.units+n+1<cLine):wu X (compareOp .NotEq) (UJ X.K n):=by
 intro pins s σ H x y u v Q I rx ry h
 obtain⟨b,sq,e,q⟩:=h
 exact(e.rc I sq rx ry hu).2 X.prog X.w X.xe _ ⟨.bl (!b),H,I,rfl,q⟩
end
theorem og.KH{K:PySem.W.Frag}{H:Hp}{n:Nat}{β:Type}[DecidableEq β]{F:β→V→Prop}(hF:∀p q u v,F p u→F q v→og K H n u v (decide (p=q))){a c:Addr}{xs ys:List V}{ps qs:List β}
   (h1:g_ K H a xs) (h2:g_ K H c ys) (r1:Paired F ps xs) (r2:Paired F qs ys):og K H (n+1) (.ref a) (.ref c) (decide (ps=qs)):=by
 have l1:=r1.length
 have l2:=r2.length
 have Q3:∀{ps:List β} {xs:List V},Paired F ps xs→∀(j:Nat) u,xs[j]?=some u→∃p,ps[j]?=some p∧F p u:=by
   intro ps xs r
   induction r with
   | nil=>intro j u h;simp at h
   | cons f t ih=>
     intro j u h
     cases j with
     | zero=>simp at h;subst h;exact⟨_,rfl,f⟩
     | succ j=>simpa using ih j u (by simpa using h)
 by_cases hl:xs.length=ys.length
 · have e:og K H (n+1) (.ref a) (.ref c) ((List.range xs.length).all fun j=>decide (ps[j]?=qs[j]?)):=.lists h1 h2 hl fun j u v hu hv=>by
     obtain⟨p,ep,fp⟩:=Q3 r1 j u hu
     obtain⟨q,eq,fq⟩:=Q3 r2 j v hv
     have:=hF p q u v fp fq
     rw[ep,eq]
     have e:decide (some p=some q)=decide (p=q):=by simp
     rw[e]
     exact this
   have e2:((List.range xs.length).all fun j=>decide (ps[j]?=qs[j]?))=decide (ps=qs):=by
     by_cases h:ps=qs
     · subst h;simp
     · rw[aaa h,abj]
       intro z
       refine h (List.ext_getElem? fun j=>?_)
       by_cases hj:j<xs.length
       · simpa using abn.mp z j (abQ.mpr hj)
       · rw[abf.mpr (by omega),abf.mpr (by omega)]
   rw[←e2]
   exact e
 · rw[aaa fun z=>hl (by rw[←l1,←l2,z])]
   exact .Ih h1 h2 hl
theorem og.Ik{K:PySem.W.Frag}{H:Hp}{n:Nat}(p q:Str):og K H n (.str p) (.str q) (decide (p=q)):=by
 have:Gw (.str p) (.str q)=decide (p=q):=(Bool.beq_eq_decide_eq p q)
 rw[←this]
 exact .flat rfl rfl
theorem og.M9{K:PySem.W.Frag}{H:Hp}{n:Nat}(p q:Int):og K H n (.int p) (.int q) (decide (p=q)):=by
 have:Gw (.int p) (.int q)=decide (p=q):=(Bool.beq_eq_decide_eq p q)
 rw[←this]
 exact .flat rfl rfl
structure OX(P:Program)(w:World)(outer:List Env)(H H':Hp)(s s':Shared)(e C:Addr):Prop where
 os:s'.os=s.os
 bare:AllBare s'.gens
 un:Un (qM outer) [] H H' s.heap s'.heap
 iK:qz P w H' s'.heap
 fl:∃B t,Heap.FlyingW B outer e (.ref C) (.ref t) s'.heap∧∀b o,s'.heap.get? b=some o→b∉qM outer→((∃u,H' b=some u)∨∃o',s.heap.get? b=some o')→B.get? b=some o
 new:s.heap.get? e=none
 free:H' e=none
def tw(P:Program)(w:World):Er:=fun outer H s E ev s'=>∃e C H',ev=.ref e∧OX P w outer H H' s s' e C∧E (.ref C) none H'
theorem i8.ex{P:Program}{w:World}{H:Hp}{h:Heap}{a:Addr}{o:HO}(x:i8 P w H h a o):∃ob,h.get? a=some ob:=by
 cases o with
 | lst xs=>obtain⟨_,_,_,_,e⟩:=x;exact⟨_,e⟩
 | tup xs=>obtain⟨_,_,_,o,e,_⟩:=x;exact⟨_,e⟩
 | dK kvs=>obtain⟨_,_,_,_,o,_,_,e,_⟩:=x;exact⟨_,e⟩
 | dT kvs=>obtain⟨_,_,_,_,o,_,_,e,_⟩:=x;exact⟨_,e⟩
 | set S n=>obtain⟨o,_,_,_,e,_⟩:=x;exact⟨_,e⟩
 | ins C dx fs=>obtain⟨_,_,_,e,_⟩:=x;exact⟨_,e⟩
 | own y=>obtain⟨_,e⟩:=x;exact⟨_,e⟩
 | xd fs=>obtain⟨_,⟨_,_,_,e,_⟩,_⟩:=x;exact⟨_,e⟩
 | SI lo hi=>obtain⟨_,_,_,e⟩:=x;exact⟨_,e⟩
 | mK ob u=>obtain⟨e,_⟩:=x;exact⟨_,e⟩
 | Ka ps=>exact⟨_,(show h.get? a=some _ from x)⟩
 | met f y=>exact⟨_,(show h.get? a=some _ from x)⟩
 | ext φ=>obtain⟨_,⟨_,e⟩,_⟩:=x;exact⟨_,e⟩
section
variable{X:Cx}{pins:List (Addr×Obj)}{σ:St}{H H':Hp}{s s':Shared}{e C:Addr}{M:Model}{E:Value→Shared→Prop}
structure Bd(X:Cx):Prop where
 stack:X.stack=X.env::X.outer
 frame:X.env.frame=some X.env.locals
 ex:X.ex=[]
theorem Inv.Kl(I:Inv X pins σ H s){b:Addr}{o:Obj}(h:X.s₀.heap.get? b=some o)(nf:b∉X.fs):b∉qM X.stack:=fun hb=>by
 rcases XY.mp (I.vb b hb) with z|z
 · rw[z] at h
   exact absurd (aax (Heap.lt_size h) I.ok.above) (aa_ _)
 · exact nf z
theorem Il(I:Inv X pins σ H s)(bd:Bd X)(un:Un (qM X.stack) [] H H' s.heap s'.heap)(hos:s'.os=s.os)(Q4:AllBare s'.gens)(iK:qz X.prog X.w H' s'.heap){B Of:Heap}{t:Addr}
   (hB:∀b o,s'.heap.get? b=some o→b∉qM X.stack→((∃u,H' b=some u)∨∃o',s.heap.get? b=some o')→B.get? b=some o)
   (hF:s'.heap.FunFrames B X.stack) (r9:Heap.FlyingW B X.outer e (.ref C) (.ref t) Of) (up:s'.heap.UpToSlots Of) (new:s.heap.get? e=none) (Vq:H' e=none) :
   OX X.prog X.w X.outer X.H₀ H' X.s₀ {s' with heap:=Of} e C:=by
 have hex:=bd.ex
 have Q5:∀b∈qM X.stack,H' b=none:=fun b hb=>by
   obtain⟨_,o,ho,_⟩:=I.stack.mem hb
   exact un.free b o ho (I.xY b hb) (by simp)
 have Gb:∀b u,H' b=some u→b∉qM X.stack:=fun b u hu hb=>by rw[Q5 b hb] at hu;cases hu
 have u4:∀b o u,s'.heap.get? b=some o→H' b=some u→Of.get? b=some o:=fun b o u ho hu=>
   r9.1 b o (hB b o ho (Gb b u hu) (.inl ⟨u,hu⟩))
 have qN:∀b,b∉X.ex:=fun b z=>by rw[hex] at z;cases z
 have outS:∀b,b∈qM X.outer→b∈qM X.stack:=fun b hb=>by
   rw[bd.stack];unfold qM;rw[abd,bd.frame];exact aaf _ hb
 refine⟨hos.trans I.os,Q4,⟨fun b o q n hb hx=>?_,fun b o q n hb hx=>?_,fun b o q n hx=>?_,fun b o q hx=>?_,fun b xs q=>un.pP b xs (I.base.pP b xs q),fun b o u q=>un.sY b o u (I.base.sY b o u q),fun b ps q=>?_⟩,fun a u ha=>?_,⟨B,t,r9,fun b o hb nb hc=>?_⟩,?_,Vq⟩
 · have q1:=I.base.keep b o q n hb (qN b)
   have nf:=I.Kl q hb
   exact r9.1 b o (hB b o (un.keep b o q1 (I.base.free b o q n (qN b)) nf (by simp)) nf (.inr ⟨o,q1⟩))
 · obtain⟨sl,q1⟩:=I.base.slot b o q n hb (qN b)
   obtain⟨Hw,q2⟩:=un.any q1 (I.base.free b o q n (qN b)) (by simp)
   obtain⟨_,o',n_,hd⟩:=I.ok.sx.mem hb
   rw[q] at n_;cases n_
   obtain⟨Fz,q3⟩:=up b _ q2 hd
   exact⟨Fz,q3⟩
 · obtain⟨o',q1⟩:=I.base.there b o q (qN b)
   exact un.free b o' q1 (I.base.free b o q n (qN b)) (by simp)
 · obtain⟨o1,q1⟩:=I.base.there b o q (qN b)
   obtain⟨o2,q2⟩:=un.there b o1 q1 (by simp)
   by_cases hb:b∈qM X.stack
   · obtain⟨_,o',n_,hd⟩:=hF.mem hb
     rw[q2] at n_;cases n_
     obtain⟨Fz,q3⟩:=up b _ q2 hd
     exact⟨_,q3⟩
   · exact⟨o2,r9.1 b o2 (hB b o2 q2 hb (.inr ⟨o1,q1⟩))⟩
 · obtain⟨m1,e1⟩:=I.base.va b ps q
   obtain⟨m2,e2⟩:=un.va b _ e1
   exact⟨m1++m2,by rw[e2,Array.append_assoc]⟩
 · refine(iK a u ha).xC (fun b v hb q=>?_) (fun _ z=>z) fun _ _ z=>z
   rcases hb with z|z
   · rw[z] at q ⊢;exact u4 a v u q ha
   · exact u4 b v _ q z
 · have all:∀o1,s'.heap.get? b=some o1→b∉qM X.stack→((∃u,H' b=some u)∨∃o',s.heap.get? b=some o')→B.get? b=some o:=fun o1 q1 nf c=>by
     have z:=hB b o1 q1 nf c
     have z2:=r9.1 b o1 z
     have hb:Of.get? b=some o:=hb
     rw[hb] at z2;cases z2
     exact z
   rcases hc with⟨u,hu⟩|⟨o',n_⟩
   · obtain⟨o1,q1⟩:=(iK b u hu).ex
     exact all o1 q1 (Gb b u hu) (.inl ⟨u,hu⟩)
   · obtain⟨o1,q1⟩:=I.base.there b o' n_ (qN b)
     obtain⟨o2,q2⟩:=un.there b o1 q1 (by simp)
     exact all o2 q2 (I.Kl n_ nb) (.inr ⟨o1,q1⟩)
 · cases q:X.s₀.heap.get? e with
   | none=>rfl
   | some o=>
     obtain⟨o1,q1⟩:=I.base.there e o q (qN e)
     rw[new] at q1;cases q1
theorem Im(I:Inv X pins σ H s)(bd:Bd X)(F:OX X.prog X.w X.stack H H' s s' e C) :
   wpAny M X.A (leaving X.env (.ref e)) (fun _ Hg=>OX X.prog X.w X.outer X.H₀ H' X.s₀ Hg e C) E s':=by
 obtain⟨B,t,fl,hB⟩:=F.fl
 have Q6:=fl
 rw[bd.stack] at Q6
 refine wpAny_leaves_onW (by rw[I.ok.frames,bd.stack]) bd.frame Q6 fun Of r9 up=>?_
 exact Il I bd F.un F.os F.bare F.iK hB fl.2.2.1 r9 up F.new F.free
theorem EC{vs:List Value}{h':Heap}(I:Inv X pins σ H s)(bd:Bd X)(hx:Heap.MadeExcOf s.heap h' e (.ref C) vs) :
   wpAny M X.A (leaving X.env (.ref e)) (fun _ Hg=>OX X.prog X.w X.outer X.H₀ H X.s₀ Hg e C) E {s with heap:=h'}:=by
 have Me:∀env∈X.stack,∀b,env.frame=some b→b∈qM X.stack:=fun env he b hb=>abI.mpr ⟨env,he,hb⟩
 have hF:=PySem.W.funFrames_hide I.stack Me
 have Vq:H e=none:=by
   cases q:H e with
   | none=>rfl
   | some u=>
     obtain⟨o,ho⟩:=(I.iK e u q).ex
     rw[hx.new] at ho;cases ho
 have un:Un (qM X.stack) [] H H s.heap h':=Un.kept hx.keeps
 have hB:∀b o,h'.get? b=some o→b∉qM X.stack→((∃u,H b=some u)∨∃o',s.heap.get? b=some o')→(PySem.W.hideAll s.heap (qM X.stack)).get? b=some o:=fun b o hb nf c=>by
   have:∃o',s.heap.get? b=some o':=by
     rcases c with⟨u,hu⟩|c
     · exact(I.iK b u hu).ex
     · exact c
   obtain⟨o',n_⟩:=this
   have z:=hx.keeps b o' n_
   rw[hb] at z;cases z
   exact PySem.W.hideAll_get _ n_ nf
 have hF2:h'.FunFrames (PySem.W.hideAll s.heap (qM X.stack)) X.stack:=hF.of_keeps fun b o ho _=>⟨o,hx.keeps b o ho,rfl⟩
 refine wpAny_leaves_madeW (base:=PySem.W.hideAll s.heap (qM X.stack)) (h:=s.heap) (by rw[I.ok.frames,bd.stack]) bd.frame (fun b o q=>PySem.W.of_hideAll _ q) (by rw[←bd.stack];exact hF) hx fun Of t r9 tup nt up=>?_
 exact Il (s':={s with heap:=h'}) I bd un rfl I.bare (I.iK.kept hx.keeps) hB hF2 r9 up hx.new Vq
structure Bx(X:Cx)(E:XK):Prop where
 bd:Bd X
 calm:X.calm=true
 xe:∀ev s',wpAny (model X.prog X.w) X.A (leaving X.env ev) (fun _ Hg=>tw X.prog X.w X.outer X.H₀ X.s₀ E ev Hg) (fun e' Hg=>tw X.prog X.w X.outer X.H₀ X.s₀ E e' Hg) s'→X.xe ev s'
theorem bx{P:Program}{w:World}{K:PySem.W.Frag}{mg:Str→Option Value}{base:Heap}{N:List Str}{qual:Str}{scope:Scope}{f:Addr}{cd:Value}{A:Around}{outer:List Env}{s:Shared}{H:Hp}{E:XK} :
   Bx (yr (tw P w) P w K mg base N qual scope f cd A outer s H E) E:=⟨⟨rfl,rfl,rfl⟩,rfl,fun _ _ h=>h⟩
theorem LZ{EX:XK}(b:Bx X EX):Passes (tw X.prog X.w) X EX:=fun pins σ H s ev s' I ⟨e,C,H',he,F,q⟩=>by
 subst he
 exact b.xe _ _ (i7 (Im I b.bd F) fun _ Hg F'=>⟨e,C,H',rfl,F',q⟩)
theorem Io{P:Program}{w:World}{K:PySem.W.Frag}{mg:Str→Option Value}{base:Heap}{N:List Str}{qual:Str}{scope:Scope}{f:Addr}{cd:Value}{A:Around}{outer:List Env}{s:Shared}{H:Hp}{E:XK} :
   PassesOwn (model P w) (yr (tw P w) P w K mg base N qual scope f cd A outer s H E).A (yr (tw P w) P w K mg base N qual scope f cd A outer s H E).env (yr (tw P w) P w K mg base N qual scope f cd A outer s H E).xe:=PassesOwn.leaving
structure Exc(K:PySem.W.Frag)(mg:Str→Option Value)(x:Str)(C:Addr):Prop where
 m:mg x=some (.ref C)
 q:PySem.W.excIn K C [.type "ValueError",.type "Exception",.type "BaseException",.type "object"] "ValueError.__new__"=true
def M_(C:Addr)(EX:XK)(ta:TE):TS:=fun _ σ H=>ta σ H fun _ H1=>EX (.ref C) none H1
theorem Bv{K:PySem.W.Frag}{h:Heap}{C:Addr}{Yq:List Value}{newId:String}(X:K.In h)(q:PySem.W.excIn K C Yq newId=true):∃bm N nm q bs hdct sn sub ab col dd k0 k1 k2 k3 k5 mN,h.get? C=some (excClassObj nm q C N bs bm hdct sn sub ab col dd k0 k1 k2 k3 k5 newId)∧h.Ns N mN∧mN "__init__"=none∧OwnTail h Yq bm:=by
 unfold PySem.W.excIn at q
 split at q
 · rename_i dd cd sl ho
   split at q
   · rename_i C' bm k0 k1 k2 k3 n k5 hm hs
     simp only [aaX,abF,Bool.not_eq_true'] at q
     obtain⟨⟨⟨⟨⟨rfl,rfl⟩,Q7⟩,ht⟩,iK⟩,Q8⟩:=q
     obtain⟨nm,bs,mro,ns,qn,hd,sn,sub,ab,col,del⟩:=cd
     dsimp only at hm Q7 iK Q8
     subst hm Q7
     have Q9:sl=#[k0,k1,k2,k3,some (.builtin n),k5]:=by
       obtain⟨l⟩:=sl
       simp only at hs
       rw[hs]
     subst Q9
     exact⟨bm,ns,nm,qn,bs,hd,sn,sub,ab,col,dd,k0,k1,k2,k3,k5,_,X _ _ ho,.of_isNs (PySem.W.isNs_of_in X iK),PySem.W.nsMap_none_of_in X iK Q8,PySem.W.tail_of_in X ht⟩
   · cases q
 · cases q
theorem j9{EX:XK}{x:Str}{a:Expr}{ta:TE}{np kQ pos:Pos}(b:Bx X EX)(O:Exc X.K X.mg x C)(hg:Gl X x)(ha:PE X a ta)
   (D2:(x ==("__debug__":Str))=false:=by decide) (hs:starEach [a] X.env=[(false,eval a X.env)]:=by rfl):PS X (.Raise (some (.Call (.Name x np) [a] [] kQ)) none pos) (M_ C EX ta):=by
 intro pins s σ H D I h
 obtain⟨bm,N,nm,q,bs,hdct,sn,sub,ab,col,dd,k0,k1,k2,k3,k5,mN,hC,hN,Q8,T⟩:=Bv I.ok.mod.MD O.q
 refine wpAny_Raise_call_subT (C:=C) (nm:=nm) (q:=q) (N:=N) (bs:=bs) (bm:=bm) (hdct:=hdct) (sn:=sn) (sub:=sub) (ab:=ab) (col:=col) (dd:=dd) (k0:=k0) (k1:=k1) (k2:=k2) (k3:=k3) (k5:=k5)
   PySem.F.excBase_ValueError (mN:=mN) (T.hasType (by decide)) (I.ok.hd b.calm) (by rw[hs];rfl) Q8 (rX I hg O.m ⟨rfl,?_⟩ D2)
 rw[hs]
 refine Calls.evalArgs_plain ?_
 refine Calls.spliced_cons (i7 (ha pins s σ H _ I h) fun u s1 ⟨y,H1,I1,r1,q1⟩=>Calls.spliced_nil ?_)
 have hk:=I1.bk
 refine⟨rfl,by show 1≤sizeLine;decide,hk _ _ hC,hN.keeps hk,T.keeps hk,fun h' e hm=>?_⟩
 exact b.xe _ _ (i7 (EC I1 b.bd hm) fun _ Hg F=>⟨e,C,H1,rfl,F,q1⟩)
end
section
variable{P:Program}{w:World}{K:PySem.W.Frag}{mg:Str→Option Value}{base:Heap}
theorem AL.CF{x qual:Str}{st:Stmt}{f:Addr}{fd:FuncData}{N ps:List Str}{k:Nat}{sp:Sp}(F:AL K x qual st f fd)(S:gw N ps (fO st))(len:∀vs H Q E,sp vs H Q E→vs.length=ps.length)
   (D3:∀(jL:Value)(A:Around)(outer:List Env)(s:Shared)(H:Hp)(vs:List V)(Q:VK)(E:XK),kF k (A.deeper (envOfC qual (fO st) s.heap.objs.size f jL))→sp vs H Q E→
     ∃t,Ed (yr (tw P w) P w K mg base N qual (fO st) f jL A outer s H E) (mZ st) t∧t {nx:=fun _ H'=>Q .jx H',rt:=Q} (start N vs) H):iw P w K mg base (tw P w) (k+1) f fd ps sp:=by
 obtain⟨oc,od,kV,doc,pm,an,jL,ct,Hy,rfl,lk,Bf⟩:=F.ex
 exact LW lk Bf S len fun A outer s H vs Q E hr Kd=>D3 jL A outer s H vs Q E hr Kd
theorem iw.CG{k:Nat}{f:Addr}{fd:FuncData}{ps:List Str}{sp:Sp}(F:iw P w K mg base (tw P w) k f fd ps sp):iw P w K mg base m_ k f fd ps (fun vs H Q _=>sp vs H Q E0):=
 ⟨fun vs H Q E h=>F.len vs H Q E0 h,fun A outer s H args us vs Q E hr e0 hb hv hs=>codeAny_mono (F.run A outer s H args us vs Q E0 hr e0 hb hv hs) fun r s' h=>by
   cases r with
   | error e=>obtain⟨_,_,_,_,_,z⟩:=h;exact z
   | ok fl=>cases fl<;>exact h⟩
end
section
variable{X:Cx}
def PF(X:Cx)(k:Nat)(es:List Expr)(t:TE):Prop:=
 ∀(acc:Str)(pins:List (Addr×Obj))(s:Shared)(σ:St)(H:Hp)(Q:VK),acc.length≤k*1048576→Inv X pins σ H s→t σ H Q→wpAny (model X.prog X.w) X.A (joinParts acc (evalEach es X.env)) (EP X pins σ Q) X.xe s
def tFn:TE:=fun _ H Q=>∀x,Q (.str x) H
def tFc(te t:TE):TE:=fun σ H Q=>te σ H fun v H1=>∃y,v=.str y∧y.length≤1048576∧t σ H1 Q
theorem nH{k:Nat}(hk:k≤8:=by decide):PF X k [] tFn:=fun acc pins s σ H Q hl I h=>
 joinParts_nil (hsz:=by have:sizeLine=16777216:=rfl;omega) ⟨.str acc,H,I.tok _,⟨_,rfl⟩,h acc⟩
theorem iz{k:Nat}{e:Expr}{es:List Expr}{te t:TE}(he:PE X e te)(hr:PF X (k+1) es t)(hk:k≤7:=by decide)(hs:evalEach (e::es) X.env=eval e X.env::evalEach es X.env:=by rfl):PF X k (e::es) (tFc te t):=by
 intro acc pins s σ H Q hl I h
 rw[hs]
 refine joinParts_cons (i7 (he pins s σ H _ I h) fun u s1 ⟨v,H1,I1,r1,y,ev,hy,q⟩=>?_)
 subst ev
 obtain⟨t',rfl⟩:=r1
 have e1:(acc++y).length=acc.length+y.length:=strLen_append ..
 exact⟨by rw[e1];have:sizeLine=16777216:=rfl;omega,hr (acc++y) pins s1 σ H1 Q (by rw[e1];omega) I1 q⟩
theorem lC{e1 e2:Expr}{es:List Expr}{t:TE}{pos:Pos}(h:PF X 0 (e1::e2::es) t):PE X (.JoinedStr (e1::e2::es) pos) t:=fun pins s σ H Q I hq=>by
 rw[arm_eval_JoinedStr]
 exact h Str.empty pins s σ H Q (by decide) I hq
def tFr(te:TE):TE:=fun σ H Q=>te σ H fun v H1=>∃x,v=.str x∧(reprText x).length≤1048576∧Q (.str (reprText x)) H1
theorem my{e:Expr}{te:TE}{pos:Pos}(he:PE X e te):PE X (.FormattedValue e 114 none pos) (tFr te):=by
 intro pins s σ H Q I h
 refine wpAny_FormattedValue_repr (i7 (he pins s σ H _ I h) fun u s1 ⟨v,H1,I1,r1,x,ev,hy,q⟩=>?_)
 subst ev
 obtain⟨t',rfl⟩:=r1
 have hz:(reprText x).length≤sizeLine:=aab hy (by decide)
 refine wpAny_pyReprObj_str (hsz:=hz) ?_
 exact formatField_str (fun Yp tk=>⟨.str (reprText x),H1,I1.tok _,⟨_,rfl⟩,q⟩) hz
end
section
variable{X:Cx}{pins:List (Addr×Obj)}{σ:St}{H:Hp}{s:Shared}{tg:Expr}
def yI(X:Cx)(d:Addr):Prop:=∀o u,X.H₀ d≠some (.mK o u)
theorem Ip{u:HO}(mu:LO (some u)):(∀xs,u≠.tup xs)∧(∀o v,u≠.mK o v)∧(∀ps,u≠.Ka ps)∧∀x,u≠.own x:=by
 cases u<;>first|exact False.elim mu|exact⟨(fun _ z=>nomatch z),(fun _ _ z=>nomatch z),(fun _ z=>nomatch z),(fun _ z=>nomatch z)⟩
theorem Inv.Na{d:Addr}{u:HO}(I:Inv X pins σ H s)(hd:H d=some u)(mu:LO (some u)):yI X d:=fun o v z=>by
 have:=I.base.sY d o v z
 rw[hd] at this
 exact(Ip mu).2.1 o v (aau this)
theorem Inv.Iq{d:Addr}{u v:HO}(I:Inv X pins σ H s)(hd:H d=some u)(nt:∀xs,u≠.tup xs)(nb:∀ps,u≠.Ka ps)(no:∀x,u≠.own x)(nf:yI X d)(new:i8 X.prog X.w (upd H d v) s.heap d v):Inv X pins σ (upd H d v) s:=by
 have ne:∀b,H b=none→b≠d:=fun b e z=>by rw[z,hd] at e;cases e
 refine⟨I.ok,I.os,I.bare,⟨I.base.keep,I.base.slot,fun b o q n hx=>by rw[de (ne b (I.base.free b o q n hx))];exact I.base.free b o q n hx,I.base.there,fun b xs q=>?_,fun b o w q=>?_,fun b ps q=>?_⟩,I.loc,I.cell,by rw[de (ne _ I.free)];exact I.free,fun x c e=>by rw[de (ne _ (I.ma x c e))];exact I.ma x c e,fun p hp=>?_,fun b o e=>?_,I.len⟩
 · have z:=I.base.pP b xs q
   have:b≠d:=fun y=>by rw[y,hd] at z;exact nt xs (aau z)
   rw[de this];exact z
 · have z:=I.base.sY b o w q
   have:b≠d:=fun y=>by rw[y] at q;exact nf o w q
   rw[de this];exact z
 · obtain⟨m,z⟩:=I.base.va b ps q
   have:b≠d:=fun y=>by rw[y,hd] at z;exact nb _ (aau z)
   exact⟨m,by rw[de this];exact z⟩
 · obtain⟨e1,e2,e3⟩:=I.pin p hp
   exact⟨e1,by rw[de (ne _ e2)];exact e2,e3⟩
 · by_cases hb:b=d
   · subst hb;rw[b_] at e;cases e;exact new
   · rw[de hb] at e
     refine(I.iK b o e).xC (fun _ _ _ q=>q) (fun c q=>?_) fun c xs q=>?_
     · have:c≠d:=fun y=>by rw[y,hd] at q;exact no _ (aau q)
       rw[de this];exact q
     · have:c≠d:=fun y=>by rw[y,hd] at q;exact nt _ (aau q)
       rw[de this];exact q
theorem Inv.frozen{d:Addr}{u:HO}(I:Inv X pins σ H s)(hd:H d=some u)(mu:LO (some u)):∃o,s.heap.get? d=some o∧Inv X pins σ (upd H d (.mK o u)) s:=by
 obtain⟨o,ho⟩:=(I.iK d u hd).ex
 obtain⟨m1,m2,m3,m4⟩:=Ip mu
 refine⟨o,ho,I.Iq hd m1 m3 m4 (I.Na hd mu) ⟨ho,?_⟩⟩
 refine(I.iK d u hd).xC (fun _ _ _ q=>q) (fun c q=>?_) fun c xs q=>?_
 · have:c≠d:=fun y=>by rw[y,hd] at q;exact m4 _ (aau q)
   rw[de this];exact q
 · have:c≠d:=fun y=>by rw[y,hd] at q;exact m1 _ (aau q)
   rw[de this];exact q
theorem Inv.vy{d:Addr}{o:Obj}{u:HO}(I:Inv X pins σ H s)(hd:H d=some (.mK o u))(nf:yI X d):Inv X pins σ (upd H d u) s:=by
 refine I.Iq hd (fun _ z=>by cases z) (fun _ z=>by cases z) (fun _ z=>by cases z) nf ?_
 obtain⟨_,q⟩:=(show i8 X.prog X.w H s.heap d (.mK o u) from I.iK d _ hd)
 refine q.xC (fun _ _ _ q=>q) (fun c q=>?_) fun c xs q=>?_
 · have:c≠d:=fun y=>by rw[y,hd] at q;cases q
   rw[de this];exact q
 · have:c≠d:=fun y=>by rw[y,hd] at q;cases q
   rw[de this];exact q
def Qa(X:Cx)(t:TE):TE:=fun σ H Q=>t σ H fun v H2=>∃d o u,H2 d=some (.mK o u)∧yI X d∧Q v (upd H2 d u)
theorem FA{e:Expr}{t:TE}(h:PE X e t):PE X e (Qa X t):=fun pins s σ H Q I hq=>
 i7 (h pins s σ H _ I hq) fun v s' ⟨x,H',I',r,d,o,u,hd,nf,q⟩=>⟨x,_,I'.vy hd nf,r,q⟩
def Ends.UL(X:Cx)(D:Ends):Ends where
 nx:=fun σ H2=>∃d o u,H2 d=some (.mK o u)∧yI X d∧D.nx σ (upd H2 d u)
 rt:=fun v H2=>∃d o u,H2 d=some (.mK o u)∧yI X d∧D.rt v (upd H2 d u)
 bk:=fun σ H2=>∃d o u,H2 d=some (.mK o u)∧yI X d∧D.bk σ (upd H2 d u)
 ct:=fun σ H2=>∃d o u,H2 d=some (.mK o u)∧yI X d∧D.ct σ (upd H2 d u)
theorem x9{st:Stmt}{t:TS}(h:PS X st t):PS X st (fun D σ H=>t (D.UL X) σ H):=fun pins s σ H D I hq=>i7 (h pins s σ H _ I hq) fun f s' q=>by
 cases f with
 | next=>obtain⟨σ',H',I',d,o,u,hd,nf,q⟩:=q;exact⟨σ',_,I'.vy hd nf,q⟩
 | brk=>obtain⟨σ',H',I',d,o,u,hd,nf,q⟩:=q;exact⟨σ',_,I'.vy hd nf,q⟩
 | cont=>obtain⟨σ',H',I',d,o,u,hd,nf,q⟩:=q;exact⟨σ',_,I'.vy hd nf,q⟩
 | ret v=>obtain⟨x,σ',H',I',r,d,o,u,hd,nf,q⟩:=q;exact⟨x,σ',_,I'.vy hd nf,r,q⟩
theorem Bw{H:Hp}{d p:Addr}{u f o:HO}(hd:H d=some u)(hp:p≠d):upd (upd (upd H d f) p o) d u=upd H p o:=by
 funext b
 by_cases h1:b=d
 · subst h1;rw[b_,de (abq hp),hd]
 · rw[de h1]
   by_cases h2:b=p
   · subst h2;rw[b_,b_]
   · rw[de h2,de h2,de h1]
theorem vz{H:Hp}{d:Addr}{u f:HO}(hd:H d=some u):upd (upd H d f) d u=H:=by
 rw[Ki]
 funext b
 by_cases h1:b=d
 · subst h1;rw[b_,hd]
 · rw[de h1]
def OY(d:Addr)(o:Obj)(kvs:List (Key×V)):It:=
 ⟨fun i H=>H d=some (.mK o (.dK kvs))∧i<kvs.length,fun i H x H'=>H'=H∧∃k v,kvs[i]?=some (k,v)∧x=kV k,fun i H=>H d=some (.mK o (.dK kvs))∧kvs.length≤i⟩
theorem FC{P:Program}{w:World}{k:Key}{u:Value}(h:(jd P w).is k u=true):RelV (kV k) u:=by
 rcases ju (show yh k u=true from h) with⟨i,t,rfl,rfl⟩|⟨x,t,rfl,rfl⟩
 · exact⟨t,rfl⟩
 · exact⟨t,rfl⟩
theorem Ir{P:Program}{w:World}{h:Heap}{d:Addr}{o:Obj}{kvs:List (Key×V)}{es:Array DictEntry}{ep:Nat}(hd:o.data=.dict es ep)(q:i8 P w H h d (.mK o (.dK kvs))):(d ==sysModules)=false∧kvs.length≤sizeLine∧∃vs,KV kvs vs∧h.DictAt (jd P w) d vs ep:=by
 obtain⟨ho,hz,hs,vs,kv,o',O4,L_,n_,h1,h2,h3⟩:=q
 rw[ho] at n_;cases n_
 rw[hd] at h2;cases h2
 exact⟨hs,hz,vs,kv,o,es,ho,h1,hd,h3⟩
theorem KV.at{κ:Type}{kvs:List (κ×V)}{vs:List (κ×Value)}(r:KV kvs vs):∀{i:Nat} {k:κ} {u:Value},vs[i]?=some (k,u)→∃v,kvs[i]?=some (k,v)∧RelV v u:=by
 induction r with
 | nil=>intro i k u e;simp at e
 | cons f t ih=>
   intro i k u e
   cases i with
   | zero=>
     simp at e
     subst e
     exact⟨_,aaW some (Prod.ext f.1 rfl),f.2⟩
   | succ i=>
     obtain⟨v,h1,h2⟩:=ih (by simpa using e)
     exact⟨v,by simpa using h1,h2⟩
theorem GG{P:Program}{w:World}{K:PySem.W.Frag}(d it:Addr)(o:Obj)(es:Array DictEntry)(ep:Nat)(kvs:List (Key×V))(JN:o.data=.dict es ep):Turn P w K tg (OY d o kvs) [it] it (fun i h=>h.IsKeyIter it d i kvs.length ep) where
 mem:=by simp
 obj:=fun i h st b hb=>by
   have e:b=it:=by simpa using hb
   subst e
   obtain⟨o,e,c,d⟩:=st
   exact⟨o,e,fun v z=>by rw[d] at z;cases z⟩
 keep:=fun i h h' st k=>st.at fun o e=>k it (by simp) o e
 item:=by
   intro X hP hw hK hc i pins s σ H E I hf st hg
   subst hP hw hK
   obtain⟨hd,hi⟩:=hg
   obtain⟨_,_,vs,kv,da⟩:=Ir JN (I.iK d _ hd)
   have hl:kvs.length=vs.length:=kv.length
   have zv:i<vs.length:=by omega
   obtain⟨⟨k,u⟩,hx⟩:∃p,vs[i]?=some p:=⟨vs[i],by simp[zv]⟩
   obtain⟨v,hv,_⟩:=kv.at hx
   obtain⟨f0,f1,f2,f3,f4,f5⟩:=hf it (by simp)
   rw[hl] at st
   refine wpAny_pyNext_dict_item st da hx fun key h' N_ Ar sb=>?_
   have I1:Inv X pins σ H {s with heap:=h'}:=I.turned (t':=s.toks) (fun b o hb e=>(sb.2 b hb).trans e) f0 f1 f3 f4 f5
   obtain⟨o',e,c,dd⟩:=id Ar
   exact⟨key,rfl,yk (s:={s with heap:=h'}) e c dd (by decide) ⟨kV k,H,I1,FC N_,⟨rfl,k,v,hv,rfl⟩,by rw[hl];exact Ar,fun b hb=>(hf b hb).1⟩⟩
 done:=by
   intro X hP hw hK hc i pins s σ H E I hf st hg
   subst hP hw hK
   obtain⟨hd,hi⟩:=hg
   obtain⟨_,_,vs,kv,da⟩:=Ir JN (I.iK d _ hd)
   have hl:kvs.length=vs.length:=kv.length
   obtain⟨f0,f1,f2,f3,f4,f5⟩:=hf it (by simp)
   rw[hl] at st
   exact wpAny_pyNext_dict_end (I.ok.hd hc) st da (by simp;omega) fun h' eb=>⟨rfl,I.turned (t':=s.toks) (fun b o hb e=>eb b o hb e) f0 f1 f3 f4 f5⟩
 self:=fun _ _ _ _ _ st h=>wpAny_pyIter_keyiter st h
def Qb(X:Cx)(td:TE):TI:=fun σ H R=>td σ H fun x H1=>∃d kvs,x=.ref d∧H1 d=some (.dK kvs)∧∀o,yI X d→R (OY d o kvs) (upd H1 d (.mK o (.dK kvs)))
theorem By{l:Expr}{td:TE}(hl:PE X l td):PI X tg l (Qb X td):=by
 intro pins s σ H R I h
 refine i7 (hl pins s σ H _ I h) fun v s1 ⟨x,H1,I1,r1,q1⟩=>?_
 obtain⟨d,kvs,e,hd,q⟩:=q1
 subst e
 cases r1
 have nf:=I1.Na hd True.intro
 obtain⟨o,ho,I2⟩:=I1.frozen hd True.intro
 obtain⟨_,hs,vs,kv,o',es,ep,n_,h1,h2,h3⟩:=(show i8 X.prog X.w H1 s1.heap d (.dK kvs) from I1.iK d _ hd)
 rw[ho] at n_;cases n_
 refine wpAny_pyIter_dict (kvs:=vs) (ep:=ep) hs ⟨o,es,ho,h1,h2,h3⟩ ?_
 refine⟨s1.heap.objs.size,[s1.heap.objs.size],_,_,_,rfl,I2.kept (t':=s1.toks) fun b o e=>Heap.get?_push_of_some _ e,GG d _ o es ep kvs h2,⟨_,Heap.get?_push_size _ rfl,rfl,by rw[kv.length];rfl⟩,fun b hb=>?_,q o nf⟩
 have e:b=s1.heap.objs.size:=by simpa using hb
 subst e
 exact I2.yj (UU _) (I2.iK.fresh (UU _))
theorem Iu{d:Addr}{o:Obj}{kvs:List (Key×V)}{g:TG}{tb:TS}{D:Ends}{σ:St}{H:Hp}(Pv:Nat→St→Hp→Prop)(h0:Pv 0 σ H)(hl:∀i σ H,Pv i σ H→H d=some (.mK o (.dK kvs)))
   (hs:∀i k v σ H,kvs[i]?=some (k,v)→Pv i σ H→g (kV k) σ H fun σ2 H2=>tb {D with nx:=Pv (i+1),ct:=Pv (i+1),bk:=D.nx} σ2 H2) (hd:∀σ H,Pv kvs.length σ H→D.nx σ H) :
   ∃W:Nat→Nat→St→Hp→Prop,(∃m,W 0 m σ H)∧∀i m σ H,W i m σ H→
     ((OY d o kvs).stop i H∧D.nx σ H)∨((OY d o kvs).go i H∧∃N:St→Hp→Prop,(∀σ' H',N σ' H'→∃m',m'<m∧W (i+1) m' σ' H')∧∀x H',(OY d o kvs).HI i H x H'→g x σ H' fun σ2 H2=>tb {D with nx:=N,ct:=N,bk:=D.nx} σ2 H2):=by
 refine⟨fun i m σ H=>m=kvs.length-i∧i≤kvs.length∧Pv i σ H,⟨kvs.length,by simp,aaE _,h0⟩,?_⟩
 rintro i m σ H ⟨rfl,hi,p⟩
 have q:=hl i σ H p
 by_cases lu:i<kvs.length
 · refine .inr ⟨⟨q,lu⟩,Pv (i+1),fun σ' H' p'=>⟨kvs.length-(i+1),by omega,rfl,lu,p'⟩,fun x H' y=>?_⟩
   obtain⟨e,k,v,y,rfl⟩:=y
   subst e
   exact hs i k v σ _ y p
 · have e:i=kvs.length:=by omega
   subst e
   exact .inl ⟨⟨q,UU _⟩,hd σ H p⟩
theorem FD{d:Addr}{o:Obj}{kvs:List (Key×V)}{g:TG}{tt:TT}{te:TE}{Q:List V→Hp→Prop}{σ:St}{H:Hp}(hn:kvs.length≤sizeLine)(Pv:Nat→List V→St→Hp→Prop)(h0:Pv 0 [] σ H)(hl:∀i ys σ H,Pv i ys σ H→H d=some (.mK o (.dK kvs))∧ys.length≤i)
   (hs:∀i k v ys σ H,kvs[i]?=some (k,v)→Pv i ys σ H→g (kV k) σ H fun σ2 H2=>tt σ2 H2 fun b H3=>if b=true then te σ2 H3 fun v H4=>Pv (i+1) (ys++[v]) σ2 H4 else Pv (i+1) ys σ2 H3)
   (hd:∀ys σ H,Pv kvs.length ys σ H→Q ys H):GF g tt te (OY d o kvs) Q σ H:=by
 refine⟨fun i m ys σ H=>m=kvs.length-i∧i≤kvs.length∧Pv i ys σ H,⟨kvs.length,by simp,aaE _,h0⟩,?_⟩
 rintro i m ys σ H ⟨rfl,hi,p⟩
 obtain⟨q,hy⟩:=hl i ys σ H p
 by_cases lu:i<kvs.length
 · refine .inr ⟨⟨q,lu⟩,by omega,Pv (i+1),fun O6 σ' H' p'=>⟨kvs.length-(i+1),by omega,rfl,lu,p'⟩,fun x H' y=>?_⟩
   obtain⟨e,k,v,y,rfl⟩:=y
   subst e
   exact hs i k v ys σ _ y p
 · have e:i=kvs.length:=by omega
   subst e
   exact .inl ⟨⟨q,UU _⟩,by omega,hd ys σ H p⟩
theorem o6{α β:Type}{F:α→β→Prop}:∀{xs:List α} {ys:List β},xs.length=ys.length→(∀(i:Nat) a b,xs[i]?=some a→ys[i]?=some b→F a b)→Paired F xs ys
 | [],[],_,_=>.nil
 | [],_::_,e,_=>by simp at e
 | _::_,[],e,_=>by simp at e
 | x::xs,y::ys,e,h=>.cons (h 0 x y rfl rfl) (o6 (by simpa using e) fun i a b ha hb=>h (i+1) a b (by simpa using ha) (by simpa using hb))
theorem yJ(hc:X.calm=true):ub X (.type "list") (fun xs H Q=>∃d kvs,xs=[V.ref d]∧H d=some (.dK kvs)∧∀p,H p=none→Q (.ref p) (upd H p (.lst (kvs.map fun kv=>kV kv.1)))):=by
 intro pins s σ H xs us Q I r h
 obtain⟨d,kvs,rfl,hd,q⟩:=h
 obtain⟨u,rfl,ru⟩:=vals1 r
 cases (show u=Value.ref d from ru)
 obtain⟨hz,hs,vs,kv,o,es,ep,ho,h1,h2,h3⟩:=(show i8 X.prog X.w H s.heap d (.dK kvs) from I.iK d _ hd)
 have hl:kvs.length=vs.length:=kv.length
 refine PySem.W.kdl_call (PySem.W.kdl_dict (knd:=jd X.prog X.w) (kvs:=vs) (ep:=ep) hs) (I.ok.hd hc) ⟨o,es,ho,h1,h2,h3⟩ (by omega) fun h' tk acc c hk hS u2=>?_
 have hf:H s.heap.objs.size=none:=I.iK.fresh (UU _)
 have rel:Vals (kvs.map fun kv=>kV kv.1) acc.toList:=by
   refine o6 (by rw[Ro];have:acc.toList.length=acc.size:=aa0;rw[this,u2.1];exact hl) fun i a b ha hb=>?_
   obtain⟨k,x,Q_,hi⟩:=u2.2 i b (by rw[←aaZ];exact hb)
   obtain⟨v,hv,_⟩:=kv.at Q_
   rw[aah,hv] at ha
   cases ha
   exact FC hi
 refine⟨.ref s.heap.objs.size,upd H s.heap.objs.size (.lst (kvs.map fun kv=>kV kv.1)),I.laid (t':=tk) hk (UU _) ?_,rfl,q _ hf⟩
 exact⟨by rw[Ro];exact hz,acc.toList,c,rel,by rw[Array.toArray_toList];exact hS⟩
end
def yK(CX:Er)(X:Cx)(σ₀:St)(E:XK):Prop:=∀(pins:List (Addr×Obj))(H:Hp)(s:Shared)(e:Value)(s':Shared),Inv X pins σ₀ H s→CX X.stack H s E e s'→X.xe e s'
def tAt(σ₀:St)(t:TE):TE:=fun σ H Q=>σ=σ₀∧t σ H Q
section
variable{X:Cx}{CX:Er}{k:Nat}{f C:Addr}{fd:FuncData}{ps:List Str}{sp:Sp}{tY:List V}{ds:List Value}{E:XK}{x m:Str}{p pos apos:Pos}{e o:Expr}{es:List Expr}{ta:TE}{t:TA}{σ₀:St}
theorem Nb{pins:List (Addr×Obj)}{H:Hp}{s:Shared}{Q:VK}{us:List Value}{vs:List V}(F:iw X.prog X.w X.K X.mg X.base CX k f fd ps sp)(hr:kF k X.A)(hb:Binds X.K fd ps ds)(hd:Vals tY ds)(hx:yK CX X σ₀ E)
   (I:Inv X pins σ₀ H s) (r:Vals vs us) (h:sp (vs++tY) H Q E):wpAny (model X.prog X.w) X.A (call (.ref f) us) (EP X pins σ₀ Q) X.xe s:=by
 have r2:Vals (vs++tY) (us++ds):=r.append hd
 have hl:(us++ds).length=ps.length:=by rw[←r2.length];exact F.len _ _ _ _ h
 refine wpAny_call (codeAny_mono (F.run X.A X.stack s H ⟨us,[]⟩ (us++ds) (vs++tY) Q E hr I.MR (hb s us I.tZ hl) r2 h) fun r s' hq=>?_)
 cases r with
 | error e=>exact hx pins H s e s' I hq
 | ok fl=>
   cases fl with
   | ret u=>exact I.after hq
   | next=>exact False.elim hq
   | brk=>exact False.elim hq
   | cont=>exact False.elim hq
theorem Iv{pl:Sem Bool}(he:PE X o ta)(c:CP X.K C)(hm:Meth X.K C m f)(F:iw X.prog X.w X.K X.mg X.base CX k f fd ps sp)(hr:kF k X.A)(hb:Binds X.K fd ps ds)(hd:Vals tY ds)(hx:yK CX X σ₀ E)(ha:PA X (e::es) t)
   (xS:starEach (e::es) X.env=(false,eval e X.env)::starEach es X.env:=by rfl) (pM:(backTo pos (starEach es X.env)).any (·.1)=false:=by rfl)
   (ht:eval (.Call (.Attribute o m apos) (e::es) [] pos) X.env=(do
     let ov ←eval o X.env
     standAt apos.atName
     let (f,first) ←holding [ov] (getMethod ov m pl)
     callWith pos f first (backTo pos (starEach (e::es) X.env)) (backToKw pos (keywordEach [] X.env))):=by rfl) :
   PE X (.Call (.Attribute o m apos) (e::es) [] pos) (tAt σ₀ (CQ C m sp tY E ta t)):=by
 intro pins s σ H Q I h
 obtain⟨rfl,h⟩:=h
 refine PySem.W.methodCall_KW (pl:=pl) (i7 (he pins s σ H _ I h) fun u s1 ⟨x,H1,I1,rx,a,dx,fs,ex,ea,l,q⟩=>?_) ht
 subst ex
 obtain rfl:u=Value.ref a:=rx
 refine tj I1 ea c hm l ?_
 refine PySem.W.callWith_K (first:=[.ref a]) (h₀:=X.base) I.ok.mod.MD hm.kp (i7 (ha pos pins s1 σ H1 _ I1 q) fun us s2 ⟨vs,H2,I2,r,q2⟩=>⟨I2.tZ,?_⟩) xS pM
 exact Nb (us:=.ref a::us) (vs:=.ref a::vs) F hr hb hd hx I2 (.cons rfl r) q2
end
abbrev Cx.sI(X:Cx)(pn:List (Addr×Obj))(E':Value→Shared→Prop):Cx:={X with pn:=pn,xe:=E'}
abbrev Cx.hand(X:Cx)(e:Addr):Cx:={X with A:=X.A.mark (some (.ref e)),calm:=false,xe:=fun _ _=>False}
theorem Cx.Ok.sI{X:Cx}(ok:X.Ok)(pn:List (Addr×Obj))(E:Value→Shared→Prop):(X.sI pn E).Ok:=
 ⟨ok.mod,ok.kind,ok.glob,ok.blt,ok.above,ok.inj,ok.has,ok.LP,ok.hd,ok.frames,ok.ME,ok.Px,ok.bs,ok.HF,ok.qN,ok.Eh,ok.sx,ok.Kb⟩
theorem Cx.Ok.hand{X:Cx}(ok:X.Ok)(e:Addr):(X.hand e).Ok:=
 ⟨ok.mod,ok.kind,ok.glob,ok.blt,ok.above,ok.inj,ok.has,ok.LP,(fun z=>nomatch z),ok.frames,ok.ME,ok.Px,ok.bs,ok.HF,ok.qN,ok.Eh,ok.sx,ok.Kb⟩
section
variable{X:Cx}{pins pn:List (Addr×Obj)}{σ:St}{H:Hp}{s:Shared}{E:Value→Shared→Prop}{e:Addr}
theorem Inv.sI(I:Inv X pins σ H s)(E:Value→Shared→Prop):Inv (X.sI (X.pn++pins) E) [] σ H s:=
 ⟨I.ok.sI _ E,I.os,I.bare,I.base,I.loc,I.cell,I.free,I.ma,fun p hp=>I.pin p (by simpa using hp),I.iK,I.len⟩
theorem Inv.pV{pl:List (Addr×Obj)}(ok:X.Ok)(I:Inv (X.sI (X.pn++pins) E) pl σ H s):Inv X pins σ H s:=
 ⟨ok,I.os,I.bare,I.base,I.loc,I.cell,I.free,I.ma,fun p hp=>I.pin p (aap _ hp),I.iK,I.len⟩
theorem Inv.hand(I:Inv X pins σ H s)(e:Addr):Inv (X.hand e) pins σ H s:=
 ⟨I.ok.hand e,I.os,I.bare,I.base,I.loc,I.cell,I.free,I.ma,I.pin,I.iK,I.len⟩
theorem Inv.vA(ok:X.Ok)(I:Inv (X.hand e) pins σ H s):Inv X pins σ H s:=
 ⟨ok,I.os,I.bare,I.base,I.loc,I.cell,I.free,I.ma,I.pin,I.iK,I.len⟩
theorem SP.pV{D:Ends}{f:Flow}{s':Shared}{pl:List (Addr×Obj)}(ok:X.Ok)(h:SP (X.sI (X.pn++pins) E) pl D f s'):SP X pins D f s':=by
 cases f with
 | next=>obtain⟨σ',H',I,q⟩:=h;exact⟨σ',H',I.pV ok,q⟩
 | brk=>obtain⟨σ',H',I,q⟩:=h;exact⟨σ',H',I.pV ok,q⟩
 | cont=>obtain⟨σ',H',I,q⟩:=h;exact⟨σ',H',I.pV ok,q⟩
 | ret u=>obtain⟨v,σ',H',I,r,q⟩:=h;exact⟨v,σ',H',I.pV ok,r,q⟩
theorem SP.vA{D:Ends}{f:Flow}{s':Shared}(ok:X.Ok)(h:SP (X.hand e) pins D f s'):SP X pins D f s':=by
 cases f with
 | next=>obtain⟨σ',H',I,q⟩:=h;exact⟨σ',H',I.vA ok,q⟩
 | brk=>obtain⟨σ',H',I,q⟩:=h;exact⟨σ',H',I.vA ok,q⟩
 | cont=>obtain⟨σ',H',I,q⟩:=h;exact⟨σ',H',I.vA ok,q⟩
 | ret u=>obtain⟨v,σ',H',I,r,q⟩:=h;exact⟨v,σ',H',I.vA ok,r,q⟩
end
theorem Nc{P:Program}{w:World}{st:List Env}{H H':Hp}{s s':Shared}{e C:Addr}(F:OX P w st H H' s s' e C)(Ra:∀b∈qM st,H b=none∧∃o,s.heap.get? b=some o){B h6:Heap}{t:Addr}(fl:Heap.FlyingW B st e (.ref C) (.ref t) s'.heap)
   (hB:∀b o,s'.heap.get? b=some o→b∉qM st→((∃u,H' b=some u)∨∃o',s.heap.get? b=some o')→B.get? b=some o) (Rb:B.StaysIn h6) (up:s'.heap.UpToSlots h6) :
   Un (qM st) [] H H' s.heap h6∧qz P w H' h6:=by
 have Gb:∀b u,H' b=some u→b∉qM st:=fun b u hu hb=>by
   obtain⟨n,o,ho⟩:=Ra b hb
   rw[F.un.free b o ho n (by simp)] at hu;cases hu
 have u4:∀b o u,s'.heap.get? b=some o→H' b=some u→h6.get? b=some o:=fun b o u ho hu=>Rb b o (hB b o ho (Gb b u hu) (.inl ⟨u,hu⟩))
 refine⟨⟨fun b o q n hb hx=>Rb b o (hB b o (F.un.keep b o q n hb hx) hb (.inr ⟨o,q⟩)),fun b o q n hb hx=>?_,F.un.free,fun b o q hx=>?_,F.un.pP,F.un.sY,F.un.va⟩,fun a u ha=>?_⟩
 · obtain⟨sl,q1⟩:=F.un.slot b o q n hb hx
   obtain⟨_,o',n_,hd⟩:=fl.2.2.1.mem hb
   rw[q1] at n_;cases n_
   obtain⟨Hw,q2⟩:=up b _ q1 hd
   exact⟨Hw,q2⟩
 · obtain⟨o2,q2⟩:=F.un.there b o q hx
   by_cases hb:b∈qM st
   · obtain⟨_,o',n_,hd⟩:=fl.2.2.1.mem hb
     rw[q2] at n_;cases n_
     obtain⟨Fz,q3⟩:=up b _ q2 hd
     exact⟨_,q3⟩
   · exact⟨o2,Rb b o2 (hB b o2 q2 hb (.inr ⟨o,q⟩))⟩
 · refine(F.iK a u ha).xC (fun b v hb q=>?_) (fun _ z=>z) fun _ _ z=>z
   rcases hb with z|z
   · rw[z] at q ⊢;exact u4 a v u q ha
   · exact u4 b v _ q z
def ED(K:PySem.W.Frag)(C D:Addr):Bool:=PySem.W.excIn K C [.type "ValueError",.type "Exception",.type "BaseException",.type "object"] "ValueError.__new__"&&PySem.W.excIn K D [.type "ValueError",.type "Exception",.type "BaseException",.type "object"] "ValueError.__new__"&&
 match K.lookup C with
 | some ⟨_,_,.cls cd,_⟩=>cd.mro.contains (.ref D)
 | _=>false
theorem C5{M:Model}{A:Around}{E:Value→Shared→Prop}{K:PySem.W.Frag}{s:Shared}{e C D:Addr}{oe:Obj}{Q:Bool→Shared→Prop}(X:K.In s.heap)(q:ED K C D=true)(he:s.heap.get? e=some oe)(hc:oe.cls=.ref C)(h:Q true s) :
   wpAny M A (excMatches (.ref e) (.ref D)) Q E s:=by
 unfold ED at q
 rw[aaX,aaX] at q
 obtain⟨⟨q1,q2⟩,q3⟩:=q
 obtain⟨bm,N,nm,qn,bs,hdct,sn,sub,ab,col,dd,k0,k1,k2,k3,k5,mN,hC,hN,Q8,T⟩:=Bv X q1
 obtain⟨bm2,N2,nm2,qn2,bs2,hdct2,sn2,sub2,ab2,col2,S8,k02,k12,k22,k32,k52,mN2,hD,hN2,hni2,T2⟩:=Bv X q2
 have hm:(Value.ref C::bm).contains (.ref D)=true:=by
   split at q3
   · rename_i c d cd sl ho
     have z:=X _ _ ho
     rw[hC] at z
     cases z
     exact q3
   · cases q3
 have hcB:(Value.ref D::bm2).contains (.type "BaseException")=true:=by rw[List.contains_cons,T2.hasType (b:=true) (by decide),Bool.or_true]
 have f:=tc_notTuple
 obtain⟨hh,g,d,tk,os⟩:=s
 unfold excMatches
 repeat (first|(with_reducible refine wpAny_loadPart_at he ?_;rw[hc])|with_reducible refine wpAny_loadPart_at hD ?_|(with_reducible refine wpAny_isSubtype_exc hD ?_;rw[hcB])|(with_reducible refine wpAny_isSubtype_exc hC ?_;rw[hm])|wp_step)
 exact h
def UM(K:PySem.W.Frag)(D0:Addr)(tb:St→XK→TS)(ts:TS):TS:=fun D σ H=>tb σ (fun cls _ H'=>∃C,cls=.ref C∧ED K C D0=true∧ts D σ H') D σ H
theorem Nd{X:Cx}{D0:Addr}{x:Str}{body Mf:List Stmt}{b₀:Stmt}{np Hj pos:Pos}{tb:St→XK→TS}{ts:TS}(bd:Bd X)(hm:X.mg x=some (.ref D0))(hg:Gl X x)
   (hb:∀(σ₀:St)(pn:List (Addr×Obj))(E':Value→Shared→Prop)(EX:XK),yK (tw X.prog X.w) (X.sI pn E') σ₀ EX→Ed (X.sI pn E') body (tb σ₀ EX))
   (hs:∀e,Ed (X.hand e) (b₀::Mf) ts) (D2:(x ==("__debug__":Str))=false:=by decide) :
   PS X (.Try body [.ExceptHandler (some (.Name x np)) none (b₀::Mf) Hj] [] [] pos) (UM X.K D0 tb ts):=by
 intro pins s σ H D I h
 refine wpAny_Try_except ?_
 refine i7 (hb σ (X.pn++pins) _ _ ?_ [] s σ H D (I.sI _) h) fun f s1 q=>?_
 · intro pl H1 s1 ev s' I1 hcx
   obtain⟨e,C,H',he,F,C',hC',xT,hts⟩:=hcx
   subst he
   cases hC'
   obtain⟨B,t,fl,hB⟩:=F.fl
   have Q6:Heap.FlyingW B X.stack e (.ref C) (.ref t) s'.heap:=fl
   rw[bd.stack] at Q6
   have Ra:∀b∈qM X.stack,H1 b=none∧∃o,s1.heap.get? b=some o:=fun b hb=>by
     obtain⟨_,o,ho,_⟩:=I1.stack.mem hb
     exact⟨I1.xY b hb,o,ho⟩
   refine wpAny_looks_onW (by rw[I.ok.frames,bd.stack]) bd.frame Q6 fun h4 Rc Yr=>?_
   refine wpAny_landsW Rc fun h5 Vr Ys=>?_
   have go:∀h6,B.StaysIn h6→s'.heap.UpToSlots h6→Inv X pins σ H' {s' with heap:=h6}:=fun h6 Rb Vs=>by
     obtain⟨un6,Vt⟩:=Nc F Ra fl hB Rb Vs
     exact(I1.LQ (s':={s' with heap:=h6}) (ch:=[]) F.os un6 Vt F.bare (fun _ z=>nomatch z)).pV I.ok
   have I5:=go h5 Vr.1 (Yr.trans Ys)
   obtain⟨ob,QZ,Vu⟩:=Vr.there
   refine wpAny_handleBy_cons (codeAny_handlers_test (rX (I5.hand e) hg hm ?_ D2)) (by intro q;cases q)
   refine C5 I5.tZ xT QZ Vu (codeAny_handlers_suite ?_)
   refine lands_againW Vr fun h6 fl6 Vs=>?_
   have I6:=go h6 fl6.1 ((Yr.trans Ys).trans Vs)
   exact wpAny_mono (hs e pins _ σ H' D (I6.hand e) hts) (fun f s7 q=>q.vA I.ok) fun _ _ z=>z.elim
 · have q:=q.pV I.ok
   cases f with
   | next=>exact wpAny_execs_nil q
   | ret v=>exact q
   | brk=>exact q
   | cont=>exact q
section
variable{X:Cx}{pins:List (Addr×Obj)}{σ:St}{H:Hp}{s:Shared}{M:Model}{A:Around}{E:Value→Shared→Prop}
end
section
variable{P:Program}{w:World}{K:PySem.W.Frag}{mg:Str→Option Value}{base:Heap}
end
section
variable{X:Cx}{k:Nat}{f:Addr}{fd:FuncData}{ps:List Str}{sp:Sp}{x:Str}{p pos:Pos}{e:Expr}{es:List Expr}{t:TA}
end
open PySem PySem.Spec PyProof.Rows PySem.W PySem.Builtin PySem.Builtin.ObjectAttr PySem.Builtin.Getset_descriptor
structure UO(K:PySem.W.Frag)(C:Addr):Prop where
 ga:PySem.W.findIn K (.ref C) "__getattribute__"=some (some (.builtin "BaseException.__getattribute__"))
 gt:PySem.W.findIn K (.ref C) "__getattr__"=some none
 cl:PySem.W.findIn K (.ref C) "__class__"=some (some (.builtin "object.__class__"))
 ob:PySem.W.mroIn K C (.type "object")=some true
 be:PySem.W.mroIn K C (.type "BaseException")=some true
 cs:(PySem.W.clsIn K C).isSome=true
section
variable{K:PySem.W.Frag}{e C:Addr}{prog:Program}{w:World}{A:Around}{E:Value→Shared→Prop}{h:Heap}{g:Array GenState}{d:Drawn}{t:Nat}{os:OsState}
end
theorem jK{xs:List V}(h:xs.length≤15:=by simp):xs.length≤sizeLine:=aab h (by decide)
theorem iA{α:Type}{xs:List α}{i:Int}{j:Nat}{v:α}(e:i=(j:Int))(h:xs[j]?=some v):CV xs i=some v:=by subst e;exact Ks h
theorem Bz{n:Nat}{i:Int}{j:Nat}(e:i=(j:Int))(h:j<n):HR n i=some j:=by
 subst e
 unfold HR
 rw[aar (by omega),aar (by omega)]
 simp
theorem gg.upd{H H':Hp}{p:Addr}{o:HO}(s:gg H H')(h:H p=none):gg H (L2.upd H' p o):=fun b u e=>by rw[de (gc e h)];exact s b u e
theorem gg.new{H H':Hp}{p:Addr}{o:HO}(s:gg H H')(h:H' p=none):gg H (L2.upd H' p o):=s.upd (s.free h)
def Iw(t:TS):TS:=fun D σ H=>∃J:St→Hp→Prop,t {D with nx:=J} σ H∧∀σ' H',J σ' H'→D.nx σ' H'
theorem SP.nx{X:Cx}{pins:List (Addr×Obj)}{D:Ends}{J:St→Hp→Prop}{f:Flow}{s:Shared}(hJ:∀σ' H',J σ' H'→D.nx σ' H')(h:SP X pins {D with nx:=J} f s):SP X pins D f s:=by
 cases f with
 | next=>obtain⟨σ,H,I,q⟩:=h;exact⟨σ,H,I,hJ _ _ q⟩
 | brk=>exact h
 | cont=>exact h
 | ret u=>exact h
theorem oQ{X:Cx}{st:Stmt}{t:TS}(h:PS X st t):PS X st (Iw t):=fun pins s σ H D I ⟨J,h1,h2⟩=>i7 (h pins s σ H _ I h1) fun f s' q=>SP.nx h2 q
theorem o7{α:Type}{xs:List α}{i:Int}(h0:0≤i)(h:i<(xs.length:Int)):∃v,CV xs i=some v∧xs[i.toNat]?=some v:=by
 have hi:i.toNat<xs.length:=by omega
 exact⟨xs[i.toNat],iA (j:=i.toNat) (by omega) (UN hi),UN hi⟩
theorem Qc{b:Bool}{A B:Prop}(e:b=false)(h:B):if b=true then A else B:=by subst e;exact jU h
theorem Iy{b:Bool}{A B:Prop}(e:b=true)(h:A):if b=true then A else B:=by subst e;exact lU h
theorem mod_lt(a b:Int)(h:0<b):0≤a%b∧a%b<b:=⟨Int.emod_nonneg a (by omega),Int.emod_lt_of_pos a h⟩
abbrev gi(l:List Str):List V:=l.map V.str
theorem iW(xs:List Str)(x:Str):gi xs++[V.str x]=gi (xs++[x]):=by unfold gi;rw[aaq];rfl
theorem nI(x y:List Str):gi x++gi y=gi (x++y):=by unfold gi;rw[aaq]
theorem oj{l:List Str}{j:Nat}{x:Str}(h:l[j]?=some x):(gi l)[j]?=some (V.str x):=by rw[aah,h];rfl
theorem jQ{l:List Str}{j:Nat}{v:V}(h:(gi l)[j]?=some v):∃x,l[j]?=some x∧v=V.str x:=by
 rw[aah] at h
 cases e:l[j]? with
 | none=>rw[e] at h;cases h
 | some x=>rw[e] at h;cases h;exact⟨x,rfl,rfl⟩
theorem OZ{A:Around}{k:Nat}(hr:kF k A){n:Nat}(h:n≤60:=by decide):A.units+n+1<cLine:=by have:=hr.units;omega
theorem iE{H:Hp}{a q:Addr}{o u:HO}(hq:H q=none)(h:H a=some o):upd H q u a=some o:=by rw[de (gc h hq)];exact h
theorem Hw{t0 t1:TS}{D:Ends}{σ:St}{H:Hp}(h:let v1:=t1;ik t0 v1 D σ H):ik t0 t1 D σ H:=h
theorem Fz{t0 t1 t2:TS}{D:Ends}{σ:St}{H:Hp}(h:let v2:=t2;let v1:=ik t1 v2;ik t0 v1 D σ H):ik t0 (ik t1 t2) D σ H:=h
theorem L0{t0 t1 t2 t3:TS}{D:Ends}{σ:St}{H:Hp}(h:let v3:=t3;let v2:=ik t2 v3;let v1:=ik t1 v2;ik t0 v1 D σ H):ik t0 (ik t1 (ik t2 t3)) D σ H:=h
theorem Qd{t0 t1 t2 t3 t4:TS}{D:Ends}{σ:St}{H:Hp}(h:let v4:=t4;let v3:=ik t3 v4;let v2:=ik t2 v3;let v1:=ik t1 v2;ik t0 v1 D σ H):ik t0 (ik t1 (ik t2 (ik t3 t4))) D σ H:=h
theorem Qe{t0 t1 t2 t3 t4 t5:TS}{D:Ends}{σ:St}{H:Hp}(h:let v5:=t5;let v4:=ik t4 v5;let v3:=ik t3 v4;let v2:=ik t2 v3;let v1:=ik t1 v2;ik t0 v1 D σ H):ik t0 (ik t1 (ik t2 (ik t3 (ik t4 t5)))) D σ H:=h
theorem XX{t0 t1 t2 t3 t4 t5 t6:TS}{D:Ends}{σ:St}{H:Hp}(h:let v6:=t6;let v5:=ik t5 v6;let v4:=ik t4 v5;let v3:=ik t3 v4;let v2:=ik t2 v3;let v1:=ik t1 v2;ik t0 v1 D σ H):ik t0 (ik t1 (ik t2 (ik t3 (ik t4 (ik t5 t6))))) D σ H:=h
theorem sl9{t0 t1 t2 t3 t4 t5 t6 t7 t8:TS}{D:Ends}{σ:St}{H:Hp}(h:let v8:=t8;let v7:=ik t7 v8;let v6:=ik t6 v7;let v5:=ik t5 v6;let v4:=ik t4 v5;let v3:=ik t3 v4;let v2:=ik t2 v3;let v1:=ik t1 v2;ik t0 v1 D σ H):ik t0 (ik t1 (ik t2 (ik t3 (ik t4 (ik t5 (ik t6 (ik t7 t8))))))) D σ H:=h
theorem UP{t0 t1 t2 t3 t4 t5 t6 t7 t8 t9 Yt Yu Yv Yw Yx Yy Yz:TS}{D:Ends}{σ:St}{H:Hp}(h:let v16:=Yz;let v15:=ik Yy v16;let Rf:=ik Yx v15;let Hk:=ik Yw Rf;let Fb:=ik Yv Hk;let v11:=ik Yu Fb;let v10:=ik Yt v11;let v9:=ik t9 v10;let v8:=ik t8 v9;let v7:=ik t7 v8;let v6:=ik t6 v7;let v5:=ik t5 v6;let v4:=ik t4 v5;let v3:=ik t3 v4;let v2:=ik t2 v3;let v1:=ik t1 v2;ik t0 v1 D σ H):ik t0 (ik t1 (ik t2 (ik t3 (ik t4 (ik t5 (ik t6 (ik t7 (ik t8 (ik t9 (ik Yt (ik Yu (ik Yv (ik Yw (ik Yx (ik Yy Yz))))))))))))))) D σ H:=h
theorem slF{w:TI}{g:TG}{b u:TS}{D:Ends}{σ:St}{H:Hp}(h:let v:=b;ik (HJ w g v) u D σ H):ik (HJ w g b) u D σ H:=h
theorem Qf{w:TI}{g:TG}{b u:TS}{D:Ends}{σ:St}{H:Hp}(h:let v:=b;ik (Iw (HJ w g v)) u D σ H):ik (Iw (HJ w g b)) u D σ H:=h
theorem UQ{c:TT}{b u:TS}{D:Ends}{σ:St}{H:Hp}(h:let v:=b;ik (Iw (Ei c v)) u D σ H):ik (Iw (Ei c b)) u D σ H:=h
section
variable{X:Cx}{tg:Expr}
def O0(x:Str):It:=⟨fun i _=>i<x.length,fun i H v H'=>H'=H∧∃c,x.cps[i]?=some c∧v=.str ⟨#[c]⟩,fun i _=>i=x.length⟩
theorem AR{P:Program}{w:World}{K:PySem.W.Frag}(it:Addr)(ty:String)(x:Str)(t:Tok)(QT:["enumerate","zip","dict_itemiterator","dict_reverseitemiterator","odict_iterator","itertools.zip_longest","itertools.pairwise"].contains ty=false)
   (W:∀A:Around,A.handled=none→Walks P w A it [it] [it] x.cps.size (SignAt x) (fun i h=>h.IsStrIter it ty x t i))
   (self:∀(A:Around)(i:Nat)(s:Shared)(Q:Value→Shared→Prop)(E:Value→Shared→Prop),s.heap.IsStrIter it ty x t i→Q (.ref it) s→wpAny (model P w) A (pyIter (.ref it)) Q E s):Turn P w K tg (O0 x) [it] it (fun i h=>h.IsStrIter it ty x t i) where
 mem:=by simp
 obj:=fun i h st b hb=>by
   have e:b=it:=by simpa using hb
   subst e
   obtain⟨o,e,c,d⟩:=st
   exact⟨o,e,fun v z=>by rw[d] at z;cases z⟩
 keep:=fun i h h' ⟨o,ho,r⟩ k=>⟨o,k it (by simp) o ho,r⟩
 item:=by
   intro X hP hw hK hc i pins s σ H E I hf st hg
   subst hP hw hK
   obtain⟨f0,f1,f2,f3,f4,f5⟩:=hf it (by simp)
   refine(W X.A (I.ok.hd hc)).item i s _ _ hg st fun v h' tk hv Ar kk=>?_
   obtain⟨c,t',Be,rfl⟩:=hv
   have I1:Inv X pins σ H {s with heap:=h',toks:=tk}:=I.turned (fun b o hb e=>kk b o (by simpa using hb) e) f0 f1 f3 f4 f5
   obtain⟨o',e,cc,dd⟩:=id Ar
   exact⟨_,rfl,yk (s:={s with heap:=h',toks:=tk}) e cc dd QT ⟨.str ⟨#[c]⟩,H,I1,⟨t',rfl⟩,⟨rfl,c,Be,rfl⟩,Ar,fun b hb=>(hf b hb).1⟩⟩
 done:=by
   intro X hP hw hK hc i pins s σ H E I hf st hg
   subst hP hw hK
   obtain⟨f0,f1,f2,f3,f4,f5⟩:=hf it (by simp)
   have e:i=x.cps.size:=hg
   subst e
   exact(W X.A (I.ok.hd hc)).done s _ _ st fun h' tk kk=>⟨rfl,I.turned (fun b o hb e=>kk b o (by simpa using hb) e) f0 f1 f3 f4 f5⟩
 self:=self
def Qg(te:TE):TI:=fun σ H R=>te σ H fun v H1=>∃x,v=.str x∧R (O0 x) H1
theorem Nf{l:Expr}{te:TE}(hl:PE X l te):PI X tg l (Qg te):=by
 intro pins s σ H R I h
 refine i7 (hl pins s σ H _ I h) fun v s1 ⟨y,H1,I1,r1,x,e,q⟩=>?_
 subst e
 obtain⟨t,rfl⟩:=r1
 have fin:∀(ty:String)(T:Turn X.prog X.w X.K tg (O0 x) [s1.heap.objs.size] s1.heap.objs.size (fun i h=>h.IsStrIter s1.heap.objs.size ty x t i)),
     Uj X pins σ tg R (.ref s1.heap.objs.size) {s1 with heap:=s1.heap.push {cls:=.type ty,data:=.fields #[.str x t,.int 0 0]}}:=fun ty T=>by
   refine⟨s1.heap.objs.size,[s1.heap.objs.size],_,_,H1,rfl,I1.kept (t':=s1.toks) fun b o e=>Heap.get?_push_of_some _ e,T,⟨_,Heap.get?_push_size _ rfl,rfl,rfl⟩,fun b hb=>?_,q⟩
   have e:b=s1.heap.objs.size:=by simpa using hb
   subst e
   exact I1.yj (UU _) (I1.iK.fresh (UU _))
 cases ha:x.cps.all (·<128)
 · exact wpAny_pyIter_wide ha (fin _ (AR _ _ x t (by decide) (fun A hh=>Walks.strWide hh _ x t) fun _ _ _ _ _ st h=>wpAny_pyIter_striter_wide st h))
 · exact wpAny_pyIter_ascii ha (fin _ (AR _ _ x t (by decide) (fun A hh=>Walks.strAscii hh _ x t) fun _ _ _ _ _ st h=>wpAny_pyIter_striter_ascii st h))
theorem Iz{x:Str}{g:TG}{tb:TS}{D:Ends}{σ:St}{H:Hp}(Pv:Nat→St→Hp→Prop)(h0:Pv 0 σ H)
   (hs:∀i c σ H,x.cps[i]?=some c→Pv i σ H→g (.str ⟨#[c]⟩) σ H fun σ2 H2=>tb {D with nx:=Pv (i+1),ct:=Pv (i+1),bk:=D.nx} σ2 H2) (hd:∀σ H,Pv x.length σ H→D.nx σ H) :
   ∃W:Nat→Nat→St→Hp→Prop,(∃m,W 0 m σ H)∧∀i m σ H,W i m σ H→
     ((O0 x).stop i H∧D.nx σ H)∨((O0 x).go i H∧∃N:St→Hp→Prop,(∀σ' H',N σ' H'→∃m',m'<m∧W (i+1) m' σ' H')∧∀v H',(O0 x).HI i H v H'→g v σ H' fun σ2 H2=>tb {D with nx:=N,ct:=N,bk:=D.nx} σ2 H2):=by
 refine⟨fun i m σ H=>m=x.length-i∧i≤x.length∧Pv i σ H,⟨x.length,by simp,aaE _,h0⟩,?_⟩
 rintro i m σ H ⟨rfl,hi,p⟩
 by_cases lu:i<x.length
 · refine .inr ⟨lu,Pv (i+1),fun σ' H' p'=>⟨x.length-(i+1),by omega,rfl,lu,p'⟩,fun v H' y=>?_⟩
   obtain⟨e,c,hc,rfl⟩:=y
   subst e
   exact hs i c σ _ hc p
 · have e:i=x.length:=by omega
   subst e
   exact .inl ⟨rfl,hd σ H p⟩
def tFi(te:TE):TE:=fun σ H Q=>te σ H fun v H1=>∃i:Int,v=.int i∧i.natAbs.log2<1920∧Q (.str (toString i)) H1
theorem IA{e:Expr}{te:TE}{pos:Pos}(he:PE X e te):PE X (.FormattedValue e (-1) none pos) (tFi te):=by
 intro pins s σ H Q I h
 refine FormattedValue_plain (i7 (he pins s σ H _ I h) fun u s1 ⟨v,H1,I1,r1,i,ev,hy,q⟩=>?_)
 subst ev
 obtain⟨t',rfl⟩:=r1
 exact formatField_int_small hy ⟨.str (toString i),H1,I1.tok _,⟨_,rfl⟩,q⟩
end
section
variable{X:Cx}{tg:Expr}
def IB(K:PySem.W.Frag)(a:Addr)(n:Nat):It:=
 ⟨fun i H=>i<n∧∃xs,g_ K H a xs∧xs.length=n,fun i H x H'=>H'=H∧∀xs,g_ K H a xs→xs[n-1-i]?=some x,fun i _=>i=n⟩
theorem IC{P:Program}{w:World}{K:PySem.W.Frag}(a it:Addr)(n:Nat):Turn P w K tg (IB K a n) [it] it (fun i h=>h.IsRevIter it a ((n:Int)-1-(i:Nat))) where
 mem:=by simp
 obj:=fun i h st b hb=>by
   have e:b=it:=by simpa using hb
   subst e
   obtain⟨o,e,c,d⟩:=st
   exact⟨o,e,fun v z=>by rw[d] at z;cases z⟩
 keep:=fun i h h' st k=>st.at fun o e=>k it (by simp) o e
 item:=by
   intro X hP hw hK hc i pins s σ H E I hf st hg
   subst hP hw hK
   obtain⟨hi,xs,hq,hl⟩:=hg
   obtain⟨ia,rv,p,hz⟩:=I.list hq
   have hx:xs[n-1-i]?=some xs[n-1-i]:=UN (by omega)
   obtain⟨u,hu,ru⟩:=rv.get hx
   obtain⟨f0,f1,f2,f3,f4,f5⟩:=hf it (by simp)
   have e1:(n:Int)-1-(i:Nat)=((n-1-i:Nat):Int):=by omega
   rw[e1] at st
   refine wpAny_pyNext_rev_item st p.isList (x:=u) (by simpa using hu) fun h' Ar sb=>?_
   have e2:((n-1-i:Nat):Int)-1=(n:Int)-1-((i+1:Nat):Int):=by omega
   rw[e2] at Ar
   have I1:Inv X pins σ H {s with heap:=h'}:=I.turned (t':=s.toks) (fun b o hb e=>(sb.2 b hb).trans e) f0 f1 f3 f4 f5
   obtain⟨o,e,c,d⟩:=id Ar
   exact⟨u,rfl,yk (s:={s with heap:=h'}) e c d (by decide) ⟨_,H,I1,ru,⟨rfl,fun ys hy=>by rw[I.o4 hy hq];exact hx⟩,Ar,fun b hb=>(hf b hb).1⟩⟩
 done:=by
   intro X hP hw hK hc i pins s σ H E I hf st hg
   subst hP hw hK
   have hg:i=n:=hg
   subst hg
   obtain⟨f0,f1,f2,f3,f4,f5⟩:=hf it (by simp)
   have e1:(i:Int)-1-(i:Nat)=-1:=by omega
   rw[e1] at st
   exact wpAny_pyNext_rev_end (I.ok.hd hc) st fun h' eb=>⟨rfl,I.turned (t':=s.toks) (fun b o hb e=>eb b o hb e) f0 f1 f3 f4 f5⟩
 self:=fun _ _ _ _ _ st h=>wpAny_pyIter_revIter st h
def Qh(K:PySem.W.Frag)(ta:TA):TI:=fun σ H R=>ta σ H fun vs H1=>∃a xs,vs=[.ref a]∧g_ K H1 a xs∧R (IB K a xs.length) H1
theorem KI{a:Expr}{ta:TA}{p pos:Pos}(hg:Gl X "reversed")(hm:X.mg "reversed"=none)(ha:PA X [a] ta)(hs:starEach [a] X.env=[(false,eval a X.env)]:=by rfl):PI X tg (.Call (.Name "reversed" p) [a] [] pos) (Qh X.K ta):=by
 intro pins s σ H R I h
 refine Call_ (oO I hg hm boot_reversed (aaR (i7 (ha pos pins s σ H _ I h) fun us s1 ⟨vs,H1,I1,r1,q1⟩=>?_) hs rfl))
 obtain⟨l,xs,rfl,hq,q⟩:=q1
 obtain⟨u,rfl,ru⟩:=vals1 r1
 cases (show u=Value.ref l from ru)
 obtain⟨ia,rv,pp,hz⟩:=I1.list hq
 have hl:=rv.length
 refine call_reversed_list pp.isList ?_
 have I2:Inv X pins σ H1 {s1 with heap:=s1.heap.push (revObj l ((ia.toArray.size:Int)-1))}:=I1.kept (t':=s1.toks) fun b o e=>Heap.get?_push_of_some _ e
 have st:(s1.heap.push (revObj l ((ia.toArray.size:Int)-1))).IsRevIter s1.heap.objs.size l ((xs.length:Int)-1-((0:Nat):Int)):=by
   have e1:(xs.length:Int)-1-((0:Nat):Int)=(ia.toArray.size:Int)-1:=by rw[hl];simp
   rw[e1]
   exact⟨_,Heap.get?_push_size _ rfl,rfl,rfl⟩
 refine wpAny_pyIter_revIter st ?_
 refine⟨s1.heap.objs.size,[s1.heap.objs.size],_,_,H1,rfl,I2,IC l _ xs.length,st,fun b hb=>?_,q⟩
 have e:b=s1.heap.objs.size:=by simpa using hb
 subst e
 exact I1.yj (UU _) (I1.iK.fresh (UU _))
theorem KJ{K:PySem.W.Frag}{a:Addr}{xs:List V}{g:TG}{tb:TS}{D:Ends}{σ:St}{H:Hp}(Pv:Nat→St→Hp→Prop)(h0:Pv 0 σ H)(hl:∀i σ H,i≤xs.length→Pv i σ H→g_ K H a xs)
   (hs:∀i x σ H,xs.reverse[i]?=some x→Pv i σ H→g x σ H fun σ2 H2=>tb {D with nx:=Pv (i+1),ct:=Pv (i+1),bk:=D.nx} σ2 H2) (hd:∀σ H,Pv xs.length σ H→D.nx σ H) :
   ∃W:Nat→Nat→St→Hp→Prop,(∃m,W 0 m σ H)∧∀i m σ H,W i m σ H→
     ((IB K a xs.length).stop i H∧D.nx σ H)∨((IB K a xs.length).go i H∧∃N:St→Hp→Prop,(∀σ' H',N σ' H'→∃m',m'<m∧W (i+1) m' σ' H')∧∀x H',(IB K a xs.length).HI i H x H'→g x σ H' fun σ2 H2=>tb {D with nx:=N,ct:=N,bk:=D.nx} σ2 H2):=by
 refine⟨fun i m σ H=>m=xs.length-i∧i≤xs.length∧Pv i σ H,⟨xs.length,by simp,aaE _,h0⟩,?_⟩
 rintro i m σ H ⟨rfl,hi,p⟩
 have q:=hl i σ H hi p
 by_cases lu:i<xs.length
 · refine .inr ⟨⟨lu,xs,q,rfl⟩,Pv (i+1),fun σ' H' p'=>⟨xs.length-(i+1),by omega,rfl,lu,p'⟩,fun x H' y=>?_⟩
   obtain⟨e,y⟩:=y
   subst e
   refine hs i x σ _ ?_ p
   rw[List.getElem?_reverse lu]
   exact y xs q
 · have e:i=xs.length:=by omega
   subst e
   exact .inl ⟨rfl,hd σ H p⟩
theorem ID{prog:Program}{w:World}{A:Around}{E:Value→Shared→Prop}{s:Shared}{r:Addr}{Q:Bool→Shared→Prop}(hT:s.TypeIs (.ref r) "list_reverseiterator")(h:Q false s):wpAny (model prog w) A (Builtin.List.listLengthHint (.ref r)) Q E s:=by
 have f1:typeLookup (.type "list_reverseiterator") "__len__"=pure none:=by rw[typeLookup_type,builtinLookup_eq_fast];kernel_rfl
 have f2:typeLookup (.type "list_reverseiterator") "__length_hint__"=pure (some (.builtin "list_reverseiterator.__length_hint__")):=by rw[typeLookup_type,builtinLookup_eq_fast];kernel_rfl
 unfold Builtin.List.listLengthHint
 refine wpAny_bind (wpAny_specialOf hT f1 ?_)
 wp_delta
 refine wpAny_ite_split (fun Gd=>absurd Gd (by decide)) (fun _=>?_)
 refine wpAny_ite_split (fun Gd=>absurd Gd (by decide)) (fun _=>?_)
 refine wpAny_bind (wpAny_specialOf hT f2 ?_)
 generalize S9:("list_reverseiterator.__length_hint__":String)=id0
 wp_delta
 rw[show splitId id0=some ("list_reverseiterator","__length_hint__") from by subst S9;decide+kernel]
 subst S9
 refine wpAny_bind (wpAny_isInstance (T:="list_reverseiterator") (b:=true) hT (by rw[isSubtype_type];kernel_rfl) ?_)
 refine wpAny_ite_split (fun Gd=>absurd Gd (by decide)) (fun _=>?_)
 refine wpAny_ite_split (fun _=>?_) (fun Gd=>absurd (by decide+kernel) Gd)
 refine wpAny_ite_split (fun Gd=>absurd Gd (by decide)) (fun _=>?_)
 exact wpAny_pure h
theorem GH{prog:Program}{w:World}{A:Around}{E:Value→Shared→Prop}{s:Shared}{T:String}{r d:Addr}{n:Nat}{P:Nat→Value→Prop}{St:Nat→Heap→Prop}{Q:Value→Shared→Prop}
   (W:Walks prog w A.in1.in1 r [r,d] [r] n P St) (hT:∀h:Heap,St 0 h→∃o,h.get? r=some o∧o.cls=.type T) (hl:(Value.type T ==Value.type "list")=false) (ht:(Value.type T ==Value.type "tuple")=false)
   (hint:∀(A:Around)(E:Value→Shared→Prop)(s:Shared)(Q:Bool→Shared→Prop),St 0 s.heap→Q false s→wpAny (model prog w) A (Builtin.List.listLengthHint (.ref r)) Q E s)
   (self:∀(A:Around)(E:Value→Shared→Prop)(s:Shared)(Q:Value→Shared→Prop),St 0 s.heap→Q (.ref r) s→wpAny (model prog w) A (pyIter (.ref r)) Q E s)
   (hd:d<s.heap.objs.size) (st:St 0 s.heap) (hn:n≤sizeLine)
   (hQ:∀h' tk Ly c',(∀b o,b≠r→s.heap.get? b=some o→h'.get? b=some o)→h'.get? s.heap.objs.size=some {cls:=.type "list",dict:=none,data:=.seq Ly c',slots:=#[]}→ItemsOf P Ly n→Q (.ref s.heap.objs.size) {s with heap:=h',toks:=tk}) :
   wpAny (model prog w) A (call (.type "list") [.ref r]) Q E s:=by
 obtain⟨or,hor,hcr⟩:=hT _ st
 have Ee:r<s.heap.objs.size:=Heap.lt_size hor
 refine callType_codes (Q₁:=fun obj s₁=>obj=.ref s.heap.objs.size∧s₁={s with heap:=s.heap.push {cls:=.type "list",data:=.seq #[]}}) PySem.F.called_list (PySem.F.typeCall_list_1 _) PySem.F.entry_list_init
   (code_list_new _ ⟨rfl,rfl⟩) fun obj s₁ h₁=>?_
 obtain⟨rfl,rfl⟩:=h₁
 have hS:(s.heap.push {cls:=.type "list",data:=.seq #[]}).get? s.heap.objs.size=some {cls:=.type "list",data:=.seq #[]}:=Heap.get?_push_size _ rfl
 have Vv:s.heap.objs.size≠r:=Nat.ne_of_gt Ee
 have YA:s.heap.objs.size≠d:=Nat.ne_of_gt hd
 refine⟨⟨_,hS,rfl⟩,PySem.F.args_list_init_2 _ _,?_⟩
 show wpAny _ _ (do let old ←Builtin.List.listItems (.ref s.heap.objs.size);Builtin.List.listUpdate (.ref s.heap.objs.size) (fun _=>#[]);letGo old.toList.reverse;Builtin.List.listExtendWith (.ref s.heap.objs.size) (.ref r) .none) _ _ _
 refine wpAny_bind ?_
 unfold Builtin.List.listItems
 refine wpAny_bind (wpAny_seqItems hS rfl (wpAny_pure ?_))
 show wpAny _ _ (updateSeq s.heap.objs.size (fun _=>#[]) >>= fun _=>letGo (#[]:Array Value).toList.reverse >>= fun _=>Builtin.List.listExtendWith (.ref s.heap.objs.size) (.ref r) .none) _ _ _
 refine wpAny_bind (wpAny_updateSeq hS rfl ?_)
 have S_:=Heap.get?_update_self (Obj.mapSeq (fun _=>(#[]:Array Value))) hS rfl
 have Ta:∀b o,s.heap.get? b=some o→((s.heap.push {cls:=.type "list",data:=.seq #[]}).update s.heap.objs.size (Obj.mapSeq (fun _=>(#[]:Array Value)))).get? b=some o:=
   fun b o e=>(Heap.get?_update_other _ _ (Nat.ne_of_gt (Heap.lt_size e))).trans (Heap.get?_push_of_some _ e)
 refine wpAny_bind (wpAny_letGo ?_)
 generalize (s.heap.push {cls:=.type "list",data:=.seq #[]}).update s.heap.objs.size (Obj.mapSeq (fun _=>(#[]:Array Value)))=h2 at S_ Ta
 have As:St 0 h2:=W.frame 0 _ _ st fun b _ o e=>Ta b o e
 have key:∀(h:Heap)(c₁ tk:Nat),St 0 h→(∀b o,s.heap.get? b=some o→h.get? b=some o)→
     h.get? s.heap.objs.size=some {cls:=.type "list",data:=.seq #[] c₁}→codeAny (model prog w) A.in1 (.builtin "list.extend.loop" ⟨[.ref s.heap.objs.size,.ref r,.none],[]⟩)
       (fun r s'=>match r with|.ok (.ret v)=>v=.none∧Q (.ref s.heap.objs.size) s'|.ok _=>False|.error e=>E e s') {s with heap:=h,toks:=tk}:=by
   intro h c₁ tk xS hk hS₁
   refine codeAny_extend_loopS W.toS hn s.heap.objs.size (by simp only [XY,abE,or_false,not_or];exact⟨Vv,YA⟩) .none n 0 _ #[] c₁ rfl (aaE _) xS hS₁ (ItemsOf.nil _) fun s' Ly c' hm hS' u2=>?_
   rw[Moved.eq_with hm]
   refine⟨rfl,hQ s'.heap s'.toks Ly c' (fun b o hb e=>hm.heap b o (fun Av=>?_) (hk b o e)) hS' u2⟩
   rcases XY.mp Av with e'|Av
   · exact absurd (Heap.lt_size e) (by rw[e'];exact aa_ _)
   · exact hb (UK.mp Av)
 unfold Builtin.List.listExtendWith
 refine wpAny_bind (wpAny_typeOf (T:=T) (hT _ As) ?_)
 have h1:Builtin.List.listSameRef (.ref s.heap.objs.size) (.ref r)=false:=by simp[Builtin.List.listSameRef,Vv]
 simp only [h1,hl,ht,Bool.or_false,aaU,abJ]
 refine wpAny_bind (self _ _ _ _ As ?_)
 refine wpAny_bind (wpAny_holding (hint _ _ _ _ As ?_))
 refine wpAny_ite_split (fun _=>?_) (fun _=>wpAny_pure ⟨plainId_quiet PySem.F.plain_extend_loop _,key _ _ _ As Ta S_⟩)
 refine wpAny_bind (wpAny_rule ?_)
 refine wpAny_bind ?_
 show wpAny _ _ (updateSeq s.heap.objs.size (·.push .none) >>= fun _=>updateSeq s.heap.objs.size (·.pop)) _ _ _
 refine wpAny_bind (wpAny_updateSeq S_ rfl ?_)
 have YB:=Heap.get?_update_self (Obj.mapSeq (·.push Value.none)) S_ rfl
 refine wpAny_updateSeq (hz:=by seq_fits) YB rfl ?_
 have hS₄:=Heap.get?_update_self (Obj.mapSeq (·.pop)) YB rfl
 have Rg:∀b o,b≠s.heap.objs.size→h2.get? b=some o→((h2.update s.heap.objs.size (Obj.mapSeq (·.push Value.none))).update s.heap.objs.size (Obj.mapSeq (·.pop))).get? b=some o:=fun b o hb e=>
   (Heap.get?_update_other _ _ (abq hb)).trans ((Heap.get?_update_other _ _ (abq hb)).trans e)
 refine wpAny_pure ⟨plainId_quiet PySem.F.plain_extend_loop _,key _ _ _ (W.frame 0 _ _ As fun b hb o e=>Rg b o (fun z=>?_) e) (fun b o e=>Rg b o (aaP (Heap.lt_size e)) (Ta b o e)) hS₄⟩
 subst z
 simp only [XY,abE,or_false] at hb
 rcases hb with z|z
 · exact Vv z
 · exact YA z
def IE(K:PySem.W.Frag)(ta:TA):TE:=fun σ H Q=>ta σ H fun vs H1=>∃a xs,vs=[.ref a]∧g_ K H1 a xs∧∀p,H1 p=none→Q (.ref p) (upd H1 p (.lst xs.reverse))
theorem EE{a:Expr}{ta:TA}{p1 p2 Vw Lz:Pos}(hc:X.calm=true)(O7:Gl X "list")(Vx:X.mg "list"=none)(hg:Gl X "reversed")(hm:X.mg "reversed"=none)(ha:PA X [a] ta)(hs:starEach [a] X.env=[(false,eval a X.env)]:=by rfl)
   (Vy:starEach [.Call (.Name "reversed" p2) [a] [] Lz] X.env=[(false,eval (.Call (.Name "reversed" p2) [a] [] Lz) X.env)]:=by rfl):PE X (.Call (.Name "list" p1) [.Call (.Name "reversed" p2) [a] [] Lz] [] Vw) (IE X.K ta):=by
 intro pins s σ H Q I h
 refine Call_ (oO I O7 Vx boot_list (aaR ?_ Vy rfl))
 rw[Vy]
 refine Calls.spliced_cons ?_
 refine Call_ (oO I hg hm boot_reversed (aaR (i7 (ha Lz pins s σ H _ I h) fun us s1 ⟨vs,H1,I1,r1,q1⟩=>?_) hs rfl))
 obtain⟨l,xs,rfl,hq,q⟩:=q1
 obtain⟨u,rfl,ru⟩:=vals1 r1
 cases (show u=Value.ref l from ru)
 obtain⟨ia,rv,pp,hz⟩:=I1.list hq
 have hl:=rv.length
 refine call_reversed_list pp.isList (Calls.spliced_nil ?_)
 have lu:l<s1.heap.objs.size:=let ⟨o,ho,_⟩:=pp.isList;Heap.lt_size ho
 have hL:(s1.heap.push (revObj l ((ia.toArray.size:Int)-1))).IsList l ia.toArray:=pp.isList.at fun o e=>Heap.get?_push_of_some _ e
 refine GH (s:={s1 with heap:=s1.heap.push (revObj l ((ia.toArray.size:Int)-1))}) (T:="list_reverseiterator") (d:=l) (n:=ia.toArray.size) (Walks.listRev (prog:=X.prog) (w:=X.w) (A:=X.A.in1.in1) (show X.A.in1.in1.handled=none from I.ok.hd hc) s1.heap.objs.size l (aaP lu) ia.toArray) (fun h ⟨_,⟨o,ho,Be,_⟩,_⟩=>⟨o,ho,Be⟩) (by decide) (by decide)
   (fun A E s Q ⟨_,⟨o,ho,Be,_⟩,_⟩ hq=>ID ⟨o,ho,Be⟩ hq) (fun A E s Q ⟨_,x,_⟩ hq=>wpAny_pyIter_revIter x hq) (aax lu (by show s1.heap.objs.size≤(s1.heap.push _).objs.size;rw[Heap.size_push];exact Nat.le_succ _))
   ⟨aaE _,by
                      have e:(ia.toArray.size:Int)-1-((0:Nat):Int)=(ia.toArray.size:Int)-1:=by omega
                      rw[e];exact⟨_,Heap.get?_push_size _ rfl,rfl,rfl⟩,hL⟩ (by rw[aag,←hl];exact hz) fun h' tk acc c hk hS u2=>?_
 have hf:H1 (s1.heap.push (revObj l ((ia.toArray.size:Int)-1))).objs.size=none:=I1.iK.fresh (by rw[Heap.size_push];omega)
 have rel:Vals xs.reverse acc.toList:=by
   have hsz:acc.toList.length=acc.size:=aa0
   refine o6 (by rw[aa7,hsz,u2.1,aag,hl]) fun i x y hx hy=>?_
   have hi:i<xs.length:=by have:=(Rt.mp hx).1;rwa [aa7] at this
   have z:=u2.2 i y (by rw[←aaZ];exact hy)
   rw[List.getElem?_reverse hi] at hx
   obtain⟨w,hw,Au⟩:=rv.get hx
   rw[aag,←hl] at z
   have z2:ia[xs.length-1-i]?=some y:=by simpa using z
   rw[hw] at z2
   cases z2
   exact Au
 refine⟨.ref _,upd H1 _ (.lst xs.reverse),I1.laid (t':=tk) (h':=h') (fun b o e=>hk b o (aaP (Heap.lt_size e)) (Heap.get?_push_of_some _ e)) (by rw[Heap.size_push];omega) ?_,rfl,q _ hf⟩
 exact⟨by rw[aa7];exact hz,acc.toList,c,rel,by rw[Array.toArray_toList];exact hS⟩
end
open PySem PySem.Builtin.Str
theorem subAt_one(s:Str)(c i:Nat):subAt s ⟨#[c]⟩ i=decide (s.cps[i]?=some c):=by
 unfold subAt
 show(s.cps.extract i (i+1) ==#[c])=_
 rw[abg]
 simp only [abF,abx]
 by_cases h:i<s.cps.size
 · have e:s.cps.extract i (i+1)=#[s.cps[i]]:=by
     apply Array.ext
     · simp;omega
     · intro j h1 h2
       simp at h2
       subst h2
       simp
   rw[e,aaQ h]
   constructor
   · intro z;simpa using z
   · intro z;simpa using z
 · have e:s.cps.extract i (i+1)=#[]:=by
     apply Array.ext
     · simp;omega
     · intro j h1 h2;simp at h2
   rw[e,Array.getElem?_eq_none (by omega)]
   simp
def om(s sub:Str)(hi:Nat)(p:Array Nat×Nat)(i:Nat):Array Nat×Nat:=
 if(decide (p.1.size<1)&&decide (p.2≤i)&&decide (i+sub.length≤hi)&&subAt s sub i)=true then(p.1.push i,i+sub.length) else p
theorem IF(s sub:Str)(lo hi:Nat):occurrences s sub lo hi 1=((List.range' lo (hi+1-lo)).foldl (om s sub hi) (#[],lo)).1.toList:=by
 unfold occurrences
 simp only [Std.Legacy.Range.forIn_eq_forIn_range',Std.Legacy.Range.size]
 rw[show(hi+1-lo+1-1)/1=hi+1-lo by omega]
 generalize List.range' lo (hi+1-lo)=l
 generalize ((#[],lo):Array Nat×Nat)=p
 show Id.run (forIn l p _ >>= _)=_
 have go:∀(l:List Nat)(p:Array Nat×Nat),(forIn l p (fun(i:Nat) (q:Array Nat×Nat)=>(if(decide (q.fst.size<1)&&decide (q.snd≤i)&&decide (i+sub.length≤hi)&&subAt s sub i)=true then
     pure (ForInStep.yield (q.fst.push i,i+sub.length)) else pure (ForInStep.yield (q.fst,q.snd)):Id (ForInStep (Array Nat×Nat)))):Id (Array Nat×Nat))=l.foldl (om s sub hi) p:=by
   intro l
   induction l with
   | nil=>intro p;rfl
   | cons a r ih=>
     intro p
     rw[List.forIn_cons,List.foldl_cons]
     unfold om
     split
     · exact ih _
     · exact ih _
 rw[go]
 rfl
theorem KL(s:Str)(c:Nat):(occurrences s ⟨#[c]⟩ 0 s.length 1).isEmpty=decide (c∉s.cps.toList):=by
 rw[IF]
 have inv:∀(l:List Nat)(p:Array Nat×Nat),(p.1=#[]→p.2=0)→((l.foldl (om s ⟨#[c]⟩ s.length) p).1=#[]↔p.1=#[]∧∀i∈l,¬(i+1≤s.length∧s.cps[i]?=some c)):=by
   intro l
   induction l with
   | nil=>intro p _;simp
   | cons a r ih=>
     intro p hp
     rw[List.foldl_cons]
     by_cases hc:(decide (p.1.size<1)&&decide (p.2≤a)&&decide (a+(⟨#[c]⟩:Str).length≤s.length)&&subAt s ⟨#[c]⟩ a)=true
     · have e:om s ⟨#[c]⟩ s.length p a=(p.1.push a,a+(⟨#[c]⟩:Str).length):=aar hc
       rw[e,ih _ (fun z=>by simp at z)]
       simp only [aaX,abx,subAt_one] at hc
       constructor
       · rintro⟨z,_⟩;simp at z
       · rintro⟨z,h⟩
         exact absurd ⟨hc.1.2,hc.2⟩ (h a aal)
     · have e:om s ⟨#[c]⟩ s.length p a=p:=aak hc
       rw[e,ih _ hp]
       constructor
       · rintro⟨z,h⟩
         refine⟨z,fun i hi=>?_⟩
         rcases XY.mp hi with rfl|hi
         · intro ⟨h1,h2⟩
           apply hc
           simp only [aaX,abx,subAt_one]
           exact⟨⟨⟨by rw[z];decide,by rw[hp z];exact aaE _⟩,h1⟩,h2⟩
         · exact h i hi
       · rintro⟨z,h⟩
         exact⟨z,fun i hi=>h i (aaf _ hi)⟩
 have h:=inv (List.range' 0 (s.length+1-0)) (#[],0) (fun _=>rfl)
 rw[abg,abx,List.isEmpty_iff]
 rw[show(List.foldl (om s ⟨#[c]⟩ s.length) (#[],0) (List.range' 0 (s.length+1-0))).1.toList=[]↔(List.foldl (om s ⟨#[c]⟩ s.length) (#[],0) (List.range' 0 (s.length+1-0))).1=#[] from ⟨fun z=>by simpa using z,fun z=>by rw[z]⟩,h]
 constructor
 · rintro⟨_,h⟩ hm
   obtain⟨i,hi,e⟩:=List.mem_iff_getElem.mp hm
   have zv:i<s.cps.size:=by simpa using hi
   refine h i (by rw[List.mem_range'_1];show 0≤i∧i<0+(s.cps.size+1-0);omega) ⟨zv,?_⟩
   rw[aaQ zv]
   simpa using e
 · intro hn
   refine⟨rfl,fun i _ ⟨_,h2⟩=>hn ?_⟩
   exact UT (i:=i) (by rw[aaZ];exact h2)
section
variable{prog:Program}{w:World}{A:Around}{E:Value→Shared→Prop}{s:Shared}
end
section
variable{X:Cx}
end
def vB(h:Heap)(d:Addr)(es:Array DictEntry)(ep:Nat):Prop:=∃o,h.get? d=some o∧o.ExactDict∧o.data=.dict es ep
section
variable{P:Program}{w:World}{A:Around}{E:Value→Shared→Prop}{s:Shared}{d it:Addr}{es:Array DictEntry}{ep i:Nat}
theorem vB.ty(x:vB s.heap d es ep):s.TypeIs (.ref d) "dict":=by obtain⟨o,e,c,_⟩:=x;exact⟨o,e,c.1⟩
theorem vB.at{h h':Heap}(x:vB h d es ep)(k:∀o,h.get? d=some o→h'.get? d=some o):vB h' d es ep:=by obtain⟨o,e,r⟩:=x;exact⟨o,k o e,r⟩
theorem C6{Q:Value→Shared→Prop}(lo:(d ==sysModules)=false)(x:vB s.heap d es ep)
   (k:Q (.ref s.heap.objs.size) {s with heap:=s.heap.push {cls:=.type "dict_keyiterator",data:=.fields #[.ref d,.int 0 0,.int es.size 0,.int ep 0]}}):wpAny (model P w) A (pyIter (.ref d)) Q E s:=by
 have ty:=x.ty
 obtain⟨o,e,c,dt⟩:=x
 refine wpAny_pyIter_slot ty F.slot_dict_iter (wpAny_call_entry F.slot_dict_iter ty F.entry_dict_iter ?z (F.args_dict_iter_1 _))
 case z=>
   unfold Builtin.«dict.__iter__» Builtin.Dict.dictSlotNone
   refine wpAny_bind (wpAny_bind (wpAny_notOrdered_dict ty (show wpAny _ _ (pure (Value.ref d)) _ _ s from wpAny_pure ?z)))
   case z=>
     show wpAny _ _ (Builtin.Dict.showsAll d >>= _) _ _ s
     unfold Builtin.Dict.showsAll
     rw[lo,aak (fun z=>by cases z)]
     refine wpAny_bind (wpAny_pure (wpAny_bind (wpAny_dictEntries e dt (wpAny_bind (wpAny_dictEpoch e dt (wpAny_bind (wpAny_newObj_type (wpAny_pure ?z))))))))
     case z=>exact⟨_,rfl,"dict_keyiterator",_,⟨_,Heap.get?_push_size _ rfl,rfl⟩,F.slot_dict_keyiterator_next.lookup,by simpa[rawInt] using k⟩
theorem C7{Q:Option Value→Shared→Prop}{y:DictEntry}(x:s.heap.IsKeyIter it d i es.size ep)(r:vB s.heap d es ep)(hy:es[i]?=some y)
   (k:∀h',h'.IsKeyIter it d (i+1) es.size ep→Heap.SameBut it s.heap h'→Q (some y.key) {s with heap:=h'}):wpAny (model P w) A (pyNext (.ref it)) Q E s:=by
 have ty:=x.typeIs
 obtain⟨o,e,c,dt⟩:=id x
 obtain⟨o2,e2,c2,Rh⟩:=r
 have Og:Builtin.Dict_items.ownsTuple "dict_keyiterator"=false:=by decide
 unfold pyNext
 refine wpAny_bind (wpAny_attempt (wpAny_callSpecial?_slot (name:=Str.ofString "__next__") ty F.slot_dict_keyiterator_next (wpAny_call_entry F.slot_dict_keyiterator_next ty F.entry_dict_keyiterator_next ?z (F.args_dict_keyiterator_next_1 _))))
 case z=>
   refine wpAny_bind (wpAny_pure (wpAny_bind (wpAny_bind ?z)))
   case z=>
     first|refine wpAny_bind (wpAny_typeNameOfWhole_keyiter ty (wpAny_pure (wpAny_bind (wpAny_fieldsOf e dt ?z))))|refine wpAny_bind (wpAny_typeNameOf_keyiter ty (wpAny_pure (wpAny_bind (wpAny_fieldsOf e dt ?z))))
     case z=>
       simp only [Og,aaU,abJ]
       show wpAny _ _ (if(Value.ref d ==Value.none)=true then _ else _) _ _ s
       rw[aak (fun z=>by cases z)]
       refine wpAny_bind (wpAny_pure (wpAny_bind (wpAny_dictEntries e2 Rh ?z)))
       case z=>
         rw[aak (by simp)]
         refine wpAny_bind (wpAny_pure (wpAny_bind (wpAny_dictEpoch e2 Rh ?z)))
         case z=>
           rw[aak (by simp)]
           refine wpAny_pure ?z
           case z=>
             simp only [show ¬((i:Int)<0) by omega,abJ,abv,hy]
             refine wpAny_bind ?z
             case z=>
               first|refine wpAny_bind (wpAny_typeNameOfWhole_keyiter ty (wpAny_pure (wpAny_bind (wpAny_isOneOf_keyiter ty ?z))))|refine wpAny_bind (wpAny_typeNameOf_keyiter ty (wpAny_pure (wpAny_bind (wpAny_isOneOf_keyiter ty ?z))))
               case z=>
                 show wpAny _ _ (setField (.ref it) 1 (rawInt ((i:Int)+1)) >>= _) _ _ s
                 have n:(s.heap.update it (Obj.mapFields (·.setIfInBounds 1 (rawInt ((i:Int)+1))))).IsKeyIter it d (i+1) es.size ep:=
                   ⟨_,Heap.get?_update_self _ e (Obj.isFreed_of_fields (Obj.data_mapFields dt _)),(Obj.cls_mapFields ..).trans c,by rw[Obj.data_mapFields dt];simp[rawInt]⟩
                 refine wpAny_bind (wpAny_setField e dt (by simp) (wpAny_bind (wpAny_holding (wpAny_bind (wpAny_isOneOf_keyiter (s:={s with heap:=s.heap.update it (Obj.mapFields (·.setIfInBounds 1 (rawInt ((i:Int)+1))))}) n.typeIs ?z)))))
                 case z=>
                   show wpAny _ _ (pure y.key) _ _ _
                   exact wpAny_pure (wpAny_pure ⟨_,rfl,wpAny_pure (k _ n (Heap.SameBut.update ..))⟩)
theorem C8{Q:Option Value→Shared→Prop}(hh:A.handled=none)(x:s.heap.IsKeyIter it d i es.size ep)(r:vB s.heap d es ep)(hy:es.size≤i)
   (k:∀h',Heap.ExtBut it s.heap h'→Q none {s with heap:=h'}):wpAny (model P w) A (pyNext (.ref it)) Q E s:=by
 have ty:=x.typeIs
 obtain⟨o,e,c,dt⟩:=id x
 obtain⟨o2,e2,c2,Rh⟩:=r
 have Og:Builtin.Dict_items.ownsTuple "dict_keyiterator"=false:=by decide
 unfold pyNext
 refine wpAny_bind (wpAny_attempt (wpAny_callSpecial?_slot (name:=Str.ofString "__next__") ty F.slot_dict_keyiterator_next (wpAny_call_entry F.slot_dict_keyiterator_next ty F.entry_dict_keyiterator_next ?z (F.args_dict_keyiterator_next_1 _))))
 case z=>
   refine wpAny_bind (wpAny_pure (wpAny_bind (wpAny_bind ?z)))
   case z=>
     first|refine wpAny_bind (wpAny_typeNameOfWhole_keyiter ty (wpAny_pure (wpAny_bind (wpAny_fieldsOf e dt ?z))))|refine wpAny_bind (wpAny_typeNameOf_keyiter ty (wpAny_pure (wpAny_bind (wpAny_fieldsOf e dt ?z))))
     case z=>
       simp only [Og,aaU,abJ]
       show wpAny _ _ (if(Value.ref d ==Value.none)=true then _ else _) _ _ s
       rw[aak (fun z=>by cases z)]
       refine wpAny_bind (wpAny_pure (wpAny_bind (wpAny_dictEntries e2 Rh ?z)))
       case z=>
         rw[aak (by simp)]
         refine wpAny_bind (wpAny_pure (wpAny_bind (wpAny_dictEpoch e2 Rh ?z)))
         case z=>
           rw[aak (by simp)]
           refine wpAny_pure ?z
           case z=>
             simp only [show ¬((i:Int)<0) by omega,abJ,abv,Array.getElem?_eq_none hy]
             refine wpAny_bind ?z
             case z=>
               first|refine wpAny_bind (wpAny_typeNameOfWhole_keyiter ty (wpAny_pure ?z))|refine wpAny_bind (wpAny_typeNameOf_keyiter ty (wpAny_pure ?z))
               case z=>
                 show wpAny _ _ (setField (.ref it) 0 .none >>= _) _ _ s
                 refine wpAny_bind (wpAny_setField e dt (by simp) ?z)
                 case z=>
                   show wpAny _ _ (newExc (.type "StopIteration") [] >>= _) _ _ _
                   refine wpAny_bind ?z
                   case z=>
                     simp only [newExc,newTuple]
                     refine wpAny_bind (wpAny_newObj_type (wpAny_bind (m:=firstArgMember _ _) (wpAny_of_eq (a:=Value.none) (by first|rfl|(simp only [firstArgMember];rfl)) (wpAny_newObj_type ?z (by size_fits)))) (by size_fits))
                     case z=>
                       simp only [raiseNew]
                       refine wpAny_bind (wpAny_handled ?z)
                       case z=>
                         rw[show A.in1.handled=none from hh]
                         refine wpAny_bind (wpAny_pure (wpAny_throw ?z))
                         case z=>exact wpAny_bind (wpAny_isInstance (T:="StopIteration") (b:=true) ⟨_,Heap.get?_push_size _ rfl,rfl⟩ isSubtype_stop <| wpAny_pure (k _ (((Heap.SameBut.update ..).extBut.push _).push _)))
end
section
variable{X:Cx}{pins:List (Addr×Obj)}{σ:St}{H:Hp}{s:Shared}{tg:Expr}
def GI(d:Addr)(o:Obj)(kvs:List (List Key×V)):It:=
 ⟨fun i H=>H d=some (.mK o (.dT kvs))∧i<kvs.length,fun i H x H'=>H'=H∧∃k v b,kvs[i]?=some (k,v)∧x=.ref b∧H b=some (.tup (k.map kV)),fun i H=>H d=some (.mK o (.dT kvs))∧kvs.length≤i⟩
theorem kt_at{kvs:List (List Key×V)}{xs:List (List Key×Addr×Value)}(r:KT H kvs xs):∀{i:Nat} {k:List Key} {b:Addr} {u:Value},xs[i]?=some (k,b,u)→∃v,kvs[i]?=some (k,v)∧H b=some (.tup (k.map kV))∧RelV v u:=by
 induction r with
 | nil=>intro i k b u e;simp at e
 | @cons p q ps qs f t ih=>
   intro i k b u e
   cases i with
   | zero=>
     simp at e
     subst e
     exact⟨p.2,aaW some (Prod.ext f.1 rfl),by rw[←show p.1=k from f.1];exact f.2.1,f.2.2⟩
   | succ i=>
     obtain⟨v,h1,h2⟩:=ih (by simpa using e)
     exact⟨v,by simpa using h1,h2⟩
theorem yM{P:Program}{w:World}{h:Heap}{d:Addr}{kvs:List (List Key×V)}(q:i8 P w H h d (.dT kvs)):(d ==sysModules)=false∧kvs.length≤sizeLine∧∃(es:Array DictEntry)(ep:Nat),vB h d es ep∧es.size=kvs.length∧
   (∀(i:Nat)(y:DictEntry),es[i]?=some y→∃k v b,kvs[i]?=some (k,v)∧y.key=.ref b∧H b=some (.tup (k.map kV))∧RelV v y.val):=by
 obtain⟨hz,hs,xs,r,o,es,ep,ho,hc,hd,he,hn⟩:=q
 have sz:=size_of_entries he
 refine⟨hs,hz,es,ep,⟨o,ho,hc,hd⟩,by rw[sz];exact(Paired.length r).symm,fun i y hy=>?_⟩
 rw[entry_at he i] at hy
 obtain⟨⟨k,b,u⟩,hx,e⟩:=aaC.mp hy
 obtain⟨v,h1,h2,h3⟩:=kt_at r hx
 subst e
 exact⟨k,v,b,h1,rfl,h2,h3⟩
theorem EF{P:Program}{w:World}{K:PySem.W.Frag}(d it:Addr)(o:Obj)(es:Array DictEntry)(ep:Nat)(kvs:List (List Key×V))(JN:o.data=.dict es ep)(hsz:es.size=kvs.length):Turn P w K tg (GI d o kvs) [it] it (fun i h=>h.IsKeyIter it d i es.size ep) where
 mem:=by simp
 obj:=fun i h st b hb=>by
   have e:b=it:=by simpa using hb
   subst e
   obtain⟨o,e,c,d⟩:=st
   exact⟨o,e,fun v z=>by rw[d] at z;cases z⟩
 keep:=fun i h h' st k=>st.at fun o e=>k it (by simp) o e
 item:=by
   intro X hP hw hK hc i pins s σ H E I hf st hg
   subst hP hw hK
   obtain⟨hd,hi⟩:=hg
   obtain⟨ho,q⟩:=(show i8 X.prog X.w H s.heap d (.mK o (.dT kvs)) from I.iK d _ hd)
   obtain⟨_,_,O4,L_,raw,sz,LA⟩:=yM q
   obtain⟨o',n_,h2,h3⟩:=id raw
   rw[ho] at n_;cases n_
   rw[JN] at h3;cases h3
   have zv:i<es.size:=by omega
   obtain⟨k,v,b,e1,e2,e3,_⟩:=LA i es[i] (aaQ zv)
   obtain⟨f0,f1,f2,f3,f4,f5⟩:=hf it (by simp)
   refine C7 st raw (aaQ zv) fun h' Ar sb=>?_
   have I1:Inv X pins σ H {s with heap:=h'}:=I.turned (t':=s.toks) (fun b o hb e=>(sb.2 b hb).trans e) f0 f1 f3 f4 f5
   obtain⟨o',e,c,dd⟩:=id Ar
   exact⟨_,rfl,yk (s:={s with heap:=h'}) e c dd (by decide) ⟨.ref b,H,I1,e2,⟨rfl,k,v,b,e1,rfl,e3⟩,Ar,fun b hb=>(hf b hb).1⟩⟩
 done:=by
   intro X hP hw hK hc i pins s σ H E I hf st hg
   subst hP hw hK
   obtain⟨hd,hi⟩:=hg
   obtain⟨ho,q⟩:=(show i8 X.prog X.w H s.heap d (.mK o (.dT kvs)) from I.iK d _ hd)
   obtain⟨_,_,O4,L_,raw,sz,LA⟩:=yM q
   obtain⟨o',n_,h2,h3⟩:=id raw
   rw[ho] at n_;cases n_
   rw[JN] at h3;cases h3
   obtain⟨f0,f1,f2,f3,f4,f5⟩:=hf it (by simp)
   exact C8 (I.ok.hd hc) st raw (by omega) fun h' eb=>⟨rfl,I.turned (t':=s.toks) (fun b o hb e=>eb b o hb e) f0 f1 f3 f4 f5⟩
 self:=fun _ _ _ _ _ st h=>wpAny_pyIter_keyiter st h
def Ng(X:Cx)(td:TE):TI:=fun σ H R=>td σ H fun x H1=>∃d kvs,x=.ref d∧H1 d=some (.dT kvs)∧∀o,yI X d→R (GI d o kvs) (upd H1 d (.mK o (.dT kvs)))
theorem yN{l:Expr}{td:TE}(hl:PE X l td):PI X tg l (Ng X td):=by
 intro pins s σ H R I h
 refine i7 (hl pins s σ H _ I h) fun v s1 ⟨x,H1,I1,r1,q1⟩=>?_
 obtain⟨d,kvs,e,hd,q⟩:=q1
 subst e
 cases r1
 have nf:=I1.Na hd True.intro
 obtain⟨o,ho,I2⟩:=I1.frozen hd True.intro
 obtain⟨hs,_,es,ep,raw,sz,_⟩:=yM (I1.iK d _ hd)
 obtain⟨o',n_,h2,h3⟩:=id raw
 rw[ho] at n_;cases n_
 refine C6 hs raw ?_
 refine⟨s1.heap.objs.size,[s1.heap.objs.size],_,_,_,rfl,I2.kept (t':=s1.toks) fun b o e=>Heap.get?_push_of_some _ e,EF d _ o es ep kvs h3 sz,⟨_,Heap.get?_push_size _ rfl,rfl,rfl⟩,fun b hb=>?_,q o nf⟩
 have e:b=s1.heap.objs.size:=by simpa using hb
 subst e
 exact I2.yj (UU _) (I2.iK.fresh (UU _))
theorem AS{d:Addr}{o:Obj}{kvs:List (List Key×V)}{g:TG}{tb:TS}{D:Ends}{σ:St}{H:Hp}(Pv:Nat→St→Hp→Prop)(h0:Pv 0 σ H)(hl:∀i σ H,Pv i σ H→H d=some (.mK o (.dT kvs)))
   (hs:∀i k v b σ H,kvs[i]?=some (k,v)→H b=some (.tup (k.map kV))→Pv i σ H→g (.ref b) σ H fun σ2 H2=>tb {D with nx:=Pv (i+1),ct:=Pv (i+1),bk:=D.nx} σ2 H2) (hd:∀σ H,Pv kvs.length σ H→D.nx σ H) :
   ∃W:Nat→Nat→St→Hp→Prop,(∃m,W 0 m σ H)∧∀i m σ H,W i m σ H→
     ((GI d o kvs).stop i H∧D.nx σ H)∨((GI d o kvs).go i H∧∃N:St→Hp→Prop,(∀σ' H',N σ' H'→∃m',m'<m∧W (i+1) m' σ' H')∧∀x H',(GI d o kvs).HI i H x H'→g x σ H' fun σ2 H2=>tb {D with nx:=N,ct:=N,bk:=D.nx} σ2 H2):=by
 refine⟨fun i m σ H=>m=kvs.length-i∧i≤kvs.length∧Pv i σ H,⟨kvs.length,by simp,aaE _,h0⟩,?_⟩
 rintro i m σ H ⟨rfl,hi,p⟩
 have q:=hl i σ H p
 by_cases lu:i<kvs.length
 · refine .inr ⟨⟨q,lu⟩,Pv (i+1),fun σ' H' p'=>⟨kvs.length-(i+1),by omega,rfl,lu,p'⟩,fun x H' y=>?_⟩
   obtain⟨e,k,v,b,y,rfl,hb⟩:=y
   subst e
   exact hs i k v b σ _ y hb p
 · have e:i=kvs.length:=by omega
   subst e
   exact .inl ⟨⟨q,UU _⟩,hd σ H p⟩
theorem IG{d:Addr}{o:Obj}{kvs:List (List Key×V)}{g:TG}{tt:TT}{te:TE}{Q:List V→Hp→Prop}{σ:St}{H:Hp}(hn:kvs.length≤sizeLine)(Pv:Nat→List V→St→Hp→Prop)(h0:Pv 0 [] σ H)(hl:∀i ys σ H,Pv i ys σ H→H d=some (.mK o (.dT kvs))∧ys.length≤i)
   (hs:∀i k v b ys σ H,kvs[i]?=some (k,v)→H b=some (.tup (k.map kV))→Pv i ys σ H→g (.ref b) σ H fun σ2 H2=>tt σ2 H2 fun c H3=>if c=true then te σ2 H3 fun v H4=>Pv (i+1) (ys++[v]) σ2 H4 else Pv (i+1) ys σ2 H3)
   (hd:∀ys σ H,Pv kvs.length ys σ H→Q ys H):GF g tt te (GI d o kvs) Q σ H:=by
 refine⟨fun i m ys σ H=>m=kvs.length-i∧i≤kvs.length∧Pv i ys σ H,⟨kvs.length,by simp,aaE _,h0⟩,?_⟩
 rintro i m ys σ H ⟨rfl,hi,p⟩
 obtain⟨q,hy⟩:=hl i ys σ H p
 by_cases lu:i<kvs.length
 · refine .inr ⟨⟨q,lu⟩,by omega,Pv (i+1),fun O6 σ' H' p'=>⟨kvs.length-(i+1),by omega,rfl,lu,p'⟩,fun x H' y=>?_⟩
   obtain⟨e,k,v,b,y,rfl,hb⟩:=y
   subst e
   exact hs i k v b ys σ _ y hb p
 · have e:i=kvs.length:=by omega
   subst e
   exact .inl ⟨⟨q,UU _⟩,by omega,hd ys σ H p⟩
end
section
variable{P:Program}{w:World}{d it:Addr}{es:Array DictEntry}{ep:Nat}
theorem GJ{A:Around}(hh:A.handled=none)(sX:d≠it):Walks P w A it [it,d] [it] es.size (fun i v=>∃y,es[i]?=some y∧v=y.key) (fun i h=>h.IsKeyIter it d i es.size ep∧vB h d es ep) where
 sub:=fun b hb=>by rw[UK.mp hb];exact aal
 frame:=fun i h h' ⟨a,b⟩ hk=>⟨a.at fun o e=>hk it aal o e,b.at fun o e=>hk d (by simp) o e⟩
 item:=fun i s Q E hi ⟨a,b⟩ hQ=>C7 a b (aaQ hi) fun h' a' sb=>hQ _ h' s.toks ⟨_,aaQ hi,rfl⟩ ⟨a',b.at fun o e=>sb.extBut d o sX e⟩ fun b o hb e=>sb.extBut b o (fun z=>hb (by rw[z];exact UK.mpr rfl)) e
 done:=fun s Q E ⟨a,b⟩ hQ=>C8 hh a b (UU _) fun h' eb=>hQ h' s.toks fun b o hb e=>eb b o (fun z=>hb (by rw[z];exact UK.mpr rfl)) e
 self:=fun i s Q E ⟨a,_⟩ hQ=>wpAny_pyIter_keyiter a hQ
theorem KN(lo:(d ==sysModules)=false):PySem.W.KdlSrc P w "dict" d d es.size (fun i v=>∃y,es[i]?=some y∧v=y.key) (fun h=>vB h d es ep) where
 type:=fun s r=>r.ty
 there:=fun h ⟨o,e,_⟩=>⟨Heap.lt_size e,Heap.lt_size e⟩
 keep:=fun h h' r hk=>r.at fun o e=>hk d (.inl rfl) o e
 notList:=by decide
 notTuple:=by decide
 hint:=fun A E s Q r hq=>PySem.W.kdl_hint_dict r.ty hq
 iter:=fun A s hh r=>⟨_,_,(fun E Q hq=>C6 lo r hq),GJ hh (by obtain⟨o,e,_⟩:=r;exact aaP (Heap.lt_size e)),⟨⟨_,Heap.get?_push_size _ rfl,rfl,rfl⟩,r.at fun o e=>Heap.get?_push_of_some _ e⟩⟩
end
section
variable{X:Cx}{pins:List (Addr×Obj)}{σ:St}{H:Hp}{s:Shared}
theorem xE(hc:X.calm=true):ub X (.type "list") (fun xs H Q=>∃d kvs,xs=[V.ref d]∧H d=some (.dT kvs)∧∀p bs,H p=none→Paired (fun(kv:List Key×V) (b:Addr)=>H b=some (.tup (kv.1.map kV))) kvs bs→Q (.ref p) (upd H p (.lst (bs.map V.ref)))):=by
 intro pins s σ H xs us Q I r h
 obtain⟨d,kvs,rfl,hd,q⟩:=h
 obtain⟨u,rfl,ru⟩:=vals1 r
 cases (show u=Value.ref d from ru)
 obtain⟨hs,hz,es,ep,raw,sz,LA⟩:=yM (I.iK d _ hd)
 refine PySem.W.kdl_call (KN hs) (I.ok.hd hc) raw (by omega) fun h' tk acc c hk hS u2=>?_
 have hf:H s.heap.objs.size=none:=I.iK.fresh (UU _)
 have hb:∀i:Nat,i<kvs.length→∃k v b,kvs[i]?=some (k,v)∧(es[i]?.map DictEntry.key)=some (Value.ref b)∧H b=some (.tup (k.map kV)):=fun i hi=>by
   have zv:i<es.size:=by omega
   obtain⟨k,v,b,e1,e2,e3,_⟩:=LA i es[i] (aaQ zv)
   exact⟨k,v,b,e1,by rw[aaQ zv,abN,e2],e3⟩
 let adr:Value→Addr:=fun v=>match v with|.ref b=>b|_=>0
 let bs:List Addr:=es.toList.map fun y=>adr y.key
 have Mg:bs.length=kvs.length:=by show(es.toList.map _).length=_;rw[Ro,aa0];exact sz
 have YC:∀(i:Nat)(b:Addr),bs[i]?=some b→∃k v,kvs[i]?=some (k,v)∧es[i]?.map DictEntry.key=some (Value.ref b)∧H b=some (.tup (k.map kV)):=fun i b e=>by
   have hi:i<kvs.length:=by rw[←Mg];exact(Rt.mp e).1
   obtain⟨k,v,b',e1,e2,e3⟩:=hb i hi
   have:bs[i]?=some b':=by
     show(es.toList.map _)[i]?=_
     rw[aah,aaZ]
     obtain⟨y,ey,e4⟩:=aaC.mp e2
     rw[ey]
     show some (adr y.key)=_
     rw[e4]
   rw[this] at e
   cases e
   exact⟨k,v,e1,e2,e3⟩
 have rel:Vals (bs.map V.ref) acc.toList:=by
   refine o6 (by have e1:=u2.1;have e2:acc.toList.length=acc.size:=aa0;rw[Ro,Mg];omega) fun i a b ha hb=>?_
   rw[aah] at ha
   obtain⟨b',e,rfl⟩:=aaC.mp ha
   obtain⟨k,v,_,e2,_⟩:=YC i b' e
   obtain⟨y,hy,hv⟩:=u2.2 i b (by rw[←aaZ];exact hb)
   rw[hy,abN] at e2
   show b=.ref b'
   rw[hv,aau e2]
 refine⟨.ref s.heap.objs.size,upd H s.heap.objs.size (.lst (bs.map V.ref)),I.laid (t':=tk) hk (UU _) ?_,rfl,q _ bs hf (o6 Mg.symm fun i a b ha hb=>?_)⟩
 · exact⟨by rw[Ro,Mg];exact hz,acc.toList,c,rel,by rw[Array.toArray_toList];exact hS⟩
 · obtain⟨k,v,e1,_,e3⟩:=YC i b hb
   rw[e1] at ha
   cases ha
   exact e3
end
section
variable{P:Program}{w:World}{κ:Type}[DecidableEq κ]{knd:HeapKind P w κ}{A:Around}{E:Value→Shared→Prop}{s:Shared}{d a:Addr}{xs:List (κ×Addr×Value)}{k:κ}
theorem IH{v:Value}{Q:Unit→Shared→Prop}(hu:knd.room A)(hk:knd.is s.heap k a)(m:s.heap.DictOfH knd d xs)(hz:xs.length≤sizeLine)
   (q:∀h',h'.DictOfH knd d (storedH xs k a v)→Heap.SameBut d s.heap h'→Q () {s with heap:=h'}):wpAny (model P w) A (dictSetHashed d (.ref a) (knd.hash k) v) Q E s:=by
 obtain⟨o,es,ep,ho,hc,hd,he,O8,hn⟩:=m
 have sz:=size_of_entries he
 unfold dictSetHashed
 try with_reducible refine wpAny_holding ?_
 refine wpAny_bind (wpAny_dictFind_heap hu hk ho hd he O8 hn (fun no=>?_) fun j p hj=>?_)
 · have at0:=atKey_none_of_get no
   refine wpAny_bind (wpAny_rule (wpAny_updateDictKeys (hz:=by omega) ho hd (q _ ?_ (Heap.SameBut.update ..))))
   rw[storedH_new at0]
   refine⟨_,_,ep+1,Heap.get?_update_self _ ho (Obj.isFreed_of_dict (Obj.data_mapDictKeys hd _)),hc.mapDictKeys _,Obj.data_mapDictKeys hd _,by simp[he,entryOfKey],fun x hx=>?_,?_⟩
   · refine knd.keeps ?_ ho hd (Heap.SameBut.update ..)
     rcases XW.mp hx with hx|hx
     · exact O8 x hx
     · rw[UK.mp hx];exact hk
   · rw[aaq,aaO]
     exact⟨hn,by simp,fun x hx y hy z=>not_mem_keys_of_get no (by rw[UK.mp hy] at z;have z:x=k:=z;exact z▸hx)⟩
 · have at1:=atKey_of_get hn hj
   refine wpAny_bind (wpAny_rule (wpAny_bind (wpAny_updateDict ho hd (wpAny_point (q _ ?_ (Heap.SameBut.update ..))))))
   rw[storedH_old at1]
   refine⟨_,_,ep,Heap.get?_update_self _ ho (Obj.isFreed_of_dict (Obj.data_mapDict hd _)),hc.mapDict _,Obj.data_mapDict hd _,?_,fun x hx=>?_,by rw[keys_map_putAt];exact hn⟩
   · have z:=modify_map_putAt (entryOfKey knd) (fun e:DictEntry=>{e with val:=v}) k v (fun _ _=>rfl) hn hj
     rw[←he] at z
     obtain⟨l⟩:=es
     simpa using z
   · obtain⟨y,hy,rfl⟩:=aaA.mp hx
     unfold putAt
     split<;>exact knd.keeps (O8 y hy) ho hd (Heap.SameBut.update ..)
def C9(xs:List (κ×Addr×Value))(k:κ):List (κ×Addr×Value):=xs.filter fun x=>decide (x.1≠k)
theorem EG{β:Type}(f:κ×Addr×Value→β):∀{xs:List (κ×Addr×Value)} {j:Nat} {p:Addr×Value},(xs.map (·.1)).Nodup→xs[j]?=some (k,p)→(xs.map f).eraseIdx j=(C9 xs k).map f:=by
 intro xs
 induction xs with
 | nil=>intro j p _ hj;simp at hj
 | cons x r ih=>
   intro j p hn hj
   rw[aas,aaK] at hn
   unfold C9
   cases j with
   | zero=>
     simp at hj
     have e:r.filter (fun x=>decide (x.1≠k))=r:=abB.mpr fun y hy=>VE fun z=>hn.1 (by rw[hj];show k∈_;rw[←z];exact aac hy)
     rw[X_ (by rw[hj];simp),e]
     rfl
   | succ j=>
     have hj:r[j]?=some (k,p):=by simpa using hj
     have ne:x.1≠k:=fun z=>hn.1 (by rw[z];exact aaA.mpr ⟨_,UT hj,rfl⟩)
     rw[XU (by simpa using ne),aas,aas,List.eraseIdx_cons_succ,ih hn.2 hj]
     rfl
theorem II{p:Addr×Value}{Q:Option DictEntry→Shared→Prop}(hu:knd.room A)(hk:knd.is s.heap k a)(m:s.heap.DictOfH knd d xs)(hz:xs.length≤sizeLine)(hp:atKey xs k=some p)
   (q:∀h',h'.DictOfH knd d (C9 xs k)→Heap.SameBut d s.heap h'→Q (some ⟨knd.hash k,.ref p.1,p.2⟩) {s with heap:=h',toks:=s.toks+knd.draws k}):wpAny (model P w) A (Builtin.Dict.takeOut d (.ref a)) Q E s:=by
 obtain⟨o,es,ep,ho,hc,hd,he,O8,hn⟩:=m
 have sz:=size_of_entries he
 unfold Builtin.Dict.takeOut
 try with_reducible refine wpAny_holding ?_
 refine wpAny_bind (knd.pyHash hu hk (wpAny_bind (wpAny_dictFind_heap (s:={s with toks:=s.toks+knd.draws k}) hu hk ho hd he O8 hn (fun no=>?_) fun j p' hj=>?_)))
 · rw[atKey_none_of_get no] at hp;cases hp
 · have e:=atKey_of_get hn hj
   rw[hp] at e
   cases e
   refine wpAny_bind (wpAny_dictEntries (s:={s with toks:=s.toks+knd.draws k}) ho hd ?_)
   rw[entry_at he j,hj]
   refine wpAny_bind (wpAny_updateDictKeys (hz:=by omega) (s:={s with toks:=s.toks+knd.draws k}) ho hd (wpAny_pure (q _ ?_ (Heap.SameBut.update ..))))
   refine⟨_,_,ep+1,Heap.get?_update_self _ ho (Obj.isFreed_of_dict (Obj.data_mapDictKeys hd _)),hc.mapDictKeys _,Obj.data_mapDictKeys hd _,?_,fun x hx=>knd.keeps (O8 x (aao.mp hx).1) ho hd (Heap.SameBut.update ..),(aaN.map _).nodup hn⟩
   have z:=EG (k:=k) (entryOfKey knd) hn hj
   rw[←he] at z
   rw[←z]
   obtain⟨l⟩:=es
   simp
def kI(xs more:List (κ×Addr×Value)):List (κ×Addr×Value):=more.foldl (fun acc x=>storedH acc x.1 x.2.1 x.2.2) xs
theorem C_{xs more:List (κ×Addr×Value)}{i:Nat}{x:κ×Addr×Value}(h:more[i]?=some x):kI xs (more.take (i+1))=storedH (kI xs (more.take i)) x.1 x.2.1 x.2.2:=by
 unfold kI
 rw[List.take_add_one,h,List.foldl_append]
 rfl
theorem Dc(xs:List (κ×Addr×Value))(k:κ)(a:Addr)(v:Value):(storedH xs k a v).length≤xs.length+1:=by
 unfold storedH
 split
 · rw[Ro];omega
 · rw[VJ];exact UU _
theorem EH(xs:List (κ×Addr×Value)):∀more:List (κ×Addr×Value),(kI xs more).length≤xs.length+more.length:=by
 intro more
 unfold kI
 induction more generalizing xs with
 | nil=>exact UU _
 | cons x r ih=>
   have h1:=ih (storedH xs x.1 x.2.1 x.2.2)
   have h2:=Dc xs x.1 x.2.1 x.2.2
   rw[List.foldl_cons,aae]
   omega
theorem EI{nm:String}{o:Addr}{more:List (κ×Addr×Value)}{Q:Unit→Shared→Prop}(hu:knd.room A)(ne:d≠o)(lo:(o ==sysModules)=false)(sX:xs≠[])(md:s.heap.DictOfH knd d xs)(mo:s.heap.DictOfH knd o more)(hz:xs.length+more.length≤sizeLine)
   (q:∀h',h'.DictOfH knd d (kI xs more)→Heap.SameBut d s.heap h'→Q () {s with heap:=h'}):wpAny (model P w) A (Builtin.Dict.mergeDict nm d o) Q E s:=by
 obtain⟨od,Tc,epd,Td,Bf,O9,Ri,S9,Oh⟩:=id md
 obtain⟨oo,Hl,epo,Te,hco,JN,JH,hio,YD⟩:=id mo
 have szo:=size_of_entries JH
 have YE:=size_of_entries Ri
 unfold Builtin.Dict.mergeDict Builtin.Dict.showsAll
 rw[aak (by simpa using ne),lo,aak (fun z=>by cases z)]
 refine wpAny_bind (wpAny_pure (wpAny_bind (wpAny_dictEntries Te JN ?_)))
 dsimp only
 have loop:wpAny (model P w) A (do
     let Rj ←dictEpoch o
     let l ←dictEntries o
     forIn [:l.size] PUnit.unit fun i (_:PUnit)=>(do
         let l' ←dictEntries o
         match l'[i]? with
           | some e=>do
             holding [e.key,e.val] (dictSetHashed d e.key e.hash e.val)
             let L_ ←dictEpoch o
             if(L_ != Rj)=true then do (unsupported (toString nm++toString ":source-changed-during-callback"):Sem PUnit);pure (ForInStep.yield PUnit.unit)
               else pure (ForInStep.yield PUnit.unit)
           | _=>do (unsupported "internal:dict-merge":Sem PUnit);pure (ForInStep.yield PUnit.unit):Sem (ForInStep PUnit))
     pure ()) Q E s:=by
   refine wpAny_bind (wpAny_dictEpoch Te JN (wpAny_bind (wpAny_dictEntries Te JN (wpAny_bind ?_))))
   rw[Std.Legacy.Range.forIn_eq_forIn_range']
   simp only [Std.Legacy.Range.size,Nat.sub_zero,Nat.add_sub_cancel,Nat.div_one]
   refine wpAny_forIn_list _ (fun rest _ s'=>∃h' i,s'={s with heap:=h'}∧rest=List.range' i (Hl.size-i)∧i≤Hl.size∧h'.DictOfH knd d (kI xs (more.take i))∧Heap.SameBut d s.heap h') _ ?_ ?_ _ _ ⟨s.heap,0,rfl,by simp,aaE _,by simpa[kI] using md,Heap.SameBut.refl _ _⟩
   · rintro x rest b s' ⟨h',i,rfl,hr,hi,hm,hs⟩
     have lu:i<Hl.size:=by
       rcases Nat.lt_or_ge i Hl.size with z|z
       · exact z
       · rw[Nat.sub_eq_zero_of_le z] at hr;simp at hr
     obtain⟨ex,er⟩:x=i∧rest=List.range' (i+1) (Hl.size-(i+1)):=by
       rw[show Hl.size-i=(Hl.size-(i+1))+1 by omega,abS] at hr
       exact List.cons.inj hr
     subst ex
     have Rl:h'.get? o=some oo:=(hs.2 o (abq ne)).trans Te
     refine wpAny_bind (wpAny_dictEntries Rl JN ?_)
     obtain⟨⟨k,b2,v⟩,hx⟩:∃y,more[x]?=some y:=⟨more[x]'(by omega),UN _⟩
     rw[entry_at JH x,hx]
     show wpAny _ _ (holding [Value.ref b2,v] (dictSetHashed d (.ref b2) (knd.hash k) v) >>= _) _ _ _
     have hl:(kI xs (more.take x)).length≤sizeLine:=by
       have:=EH xs (more.take x)
       rw[aav] at this
       omega
     have hib:knd.is h' k b2:=knd.keeps (hio _ (UT hx)) Td O9 hs
     refine wpAny_bind (wpAny_holding (IH (s:={s with heap:=h'}) hu hib hm hl fun h2 m2 s2=>?_))
     refine wpAny_bind (wpAny_dictEpoch ((s2.2 o (abq ne)).trans Rl) JN ?_)
     rw[aak (by simp)]
     exact wpAny_pure ⟨h2,x+1,rfl,er,lu,by rw[C_ hx];exact m2,hs.trans s2⟩
   · rintro b s' ⟨h',i,rfl,hr,hi,hm,hs⟩
     have e:i=Hl.size:=by
       rcases Nat.lt_or_ge i Hl.size with z|z
       · rw[show Hl.size-i=(Hl.size-(i+1))+1 by omega,abS] at hr;cases hr
       · omega
     refine wpAny_pure (q h' ?_ hs)
     rw[e,szo,aai] at hm
     exact hm
 split
 · refine wpAny_bind (wpAny_dictEntries Td O9 ?_)
   rw[aak (fun z=>?_)]
   · exact loop
   · have:Tc=#[]:=Array.isEmpty_iff.mp z
     rw[this] at YE
     exact sX (aaG.mp YE.symm)
 · exact loop
theorem IJ{o:Addr}{more:List (κ×Addr×Value)}{Q:Value→Shared→Prop}(hu:knd.room A.in1)(ne:d≠o)(lo:(o ==sysModules)=false)(sX:xs≠[])(md:s.heap.DictOfH knd d xs)(mo:s.heap.DictOfH knd o more)(hz:xs.length+more.length≤sizeLine)
   (q:∀h',h'.DictOfH knd d (kI xs more)→Heap.SameBut d s.heap h'→Q .none {s with heap:=h'}):wpAny (model P w) A (call (.builtin "dict.update") [.ref d,.ref o]) Q E s:=by
 refine wpAny_call_entry aby md.typeIs PySem.F.entry_dict_update ?_ (PySem.F.args_dict_update_2 _ _)
 unfold Builtin.«dict.update» Builtin.Dict.selfAndRest
 refine wpAny_bind (wpAny_bind (wpAny_notOrdered_dict md.typeIs (show wpAny _ _ (pure (d,[Value.ref o])) _ _ s from wpAny_pure ?_)))
 show wpAny _ _ (Builtin.Dict.updateFrom "dict.update" d (.ref o) [] .none) _ _ s
 unfold Builtin.Dict.updateFrom
 refine wpAny_bind (wpAny_typeOf mo.typeIs ?_)
 rw[aak (by decide)]
 unfold Builtin.Dict.merge Builtin.Dict.readDirectly
 refine wpAny_bind (wpAny_bind (wpAny_bind (wpAny_isInstance mo.typeIs isSubtype_dict_dict ?_)))
 simp only [Bool.not_true,aaU,abJ]
 refine wpAny_bind (wpAny_specialOf mo.typeIs F.slot_dict_iter.lookup (wpAny_pure ?_))
 simp only [beq_self_eq_true,if_true]
 refine wpAny_bind (wpAny_pure (EI hu ne lo sX md mo hz fun h' m s'=>?_))
 show wpAny _ _ (Builtin.Dict.addKeywords d [] >>= _) _ _ _
 exact wpAny_bind (wpAny_pure (wpAny_pure ⟨.none,rfl,q h' m s'⟩))
end
def putAll{κ:Type}[DecidableEq κ](kvs more:List (κ×V)):List (κ×V):=more.foldl (fun acc kv=>putK acc kv.1 kv.2) kvs
section
variable{κ:Type}[DecidableEq κ]
theorem qS(kvs:List (κ×V))(p:κ×V)(r:List (κ×V)):putAll kvs (p::r)=putAll (putK kvs p.1 p.2) r:=rfl
theorem pW:∀(more kvs:List (κ×V)),(putAll kvs more).length≤kvs.length+more.length
 | [],kvs=>UU _
 | p::r,kvs=>by
   have h1:=pW r (putK kvs p.1 p.2)
   have h2:=jv kvs p.1 p.2
   rw[qS,aae]
   omega
theorem kt_merged{H:Hp}{more:List (List Key×V)}{ys:List (List Key×Addr×Value)}(r:KT H more ys):∀{kvs:List (List Key×V)} {xs:List (List Key×Addr×Value)},KT H kvs xs→KT H (putAll kvs more) (kI xs ys):=by
 induction r with
 | nil=>intro kvs xs r;exact r
 | @cons p q ps qs f t ih=>
   intro kvs xs r
   have z:=r.put p.1 (b:=q.2.1) f.2.1 f.2.2
   have z2:=ih z
   rw[show kI xs (q::qs)=kI (storedH xs q.1 q.2.1 q.2.2) qs from rfl,←show p.1=q.1 from f.1]
   exact z2
theorem GK{more:List (κ×V)}{ys:List (κ×Value)}(r:KV more ys):∀{kvs:List (κ×V)} {xs:List (κ×Value)},KV kvs xs→KV (putAll kvs more) (merged xs ys):=by
 induction r with
 | nil=>intro kvs xs r;exact r
 | @cons p q ps qs f t ih=>
   intro kvs xs r
   have z:=ih (KV.put r p.1 f.2)
   rw[show merged xs (q::qs)=merged (stored xs q.1 q.2) qs from rfl,←show p.1=q.1 from f.1]
   exact z
end
section
variable{X:Cx}{pins:List (Addr×Obj)}{σ:St}{H:Hp}{s:Shared}{a b:Addr}{A:Around}{E:Value→Shared→Prop}
theorem KO{kvs:List (List Key×V)}{xs:List (List Key×Addr×Value)}(r:KT H kvs xs)(k:List Key):KT H (jT kvs k) (C9 xs k):=by
 induction r with
 | nil=>exact .nil
 | @cons p q ps qs f t ih=>
   unfold jT C9
   by_cases e:p.1=k
   · have e':q.1=k:=f.1.symm.trans e
     rw[X_ (by simp[e]),X_ (by simp[e'])]
     exact ih
   · have e':¬q.1=k:=fun z=>e (f.1.trans z)
     rw[XU (by simp[e]),XU (by simp[e'])]
     exact .cons f ih
theorem Nh{kvs more:List (List Key×V)}{Q:Value→Shared→Prop}(hu:A.units+1<cLine)(I:Inv X pins σ H s)(ha:H a=some (.dT kvs))(hb:Rd H b (.dT more))(ne:a≠b)(h0:kvs≠[])(hz:kvs.length+more.length≤sizeLine)
   (h:∀s',Inv X pins σ (upd H a (.dT (putAll kvs more))) s'→Q .none s'):wpAny (model X.prog X.w) A (call (.builtin "dict.update") [.ref a,.ref b]) Q E s:=by
 obtain⟨z,lo,xs,rel,dd⟩:=HX I.iK ha
 obtain⟨z2,Vz,ys,JO,S8⟩:=wA I.iK hb
 have l1:=Paired.length rel
 have l2:=Paired.length JO
 have x0:xs≠[]:=fun e=>h0 (aaG.mp (by rw[l1,e];rfl))
 refine IJ (tupleKind_room_in1 hu) ne Vz x0 dd S8 (by omega) fun h' m hs=>h _ ?_
 obtain⟨q,es,ep,hq,h2,h3,h4,_,h5⟩:=m
 refine rZ (t':=s.toks) I (by rw[ha];exact True.intro) hs ⟨q,hq⟩ ⟨aab (pW _ _) hz,lo,_,(kt_merged JO rel).keeps fun c ys ec=>?_,q,es,ep,hq,h2,h3,h4,h5⟩
 rw[de (i_ ec ha (fun z=>nomatch z))]
 exact ec
theorem Ni{kvs more:List (Key×V)}{Q:Value→Shared→Prop}(I:Inv X pins σ H s)(ha:H a=some (.dK kvs))(hb:Rd H b (.dK more))(ne:a≠b)(hz:kvs.length+more.length≤sizeLine)
   (h:∀s',Inv X pins σ (upd H a (.dK (putAll kvs more))) s'→Q .none s'):wpAny (model X.prog X.w) A (call (.builtin "dict.update") [.ref a,.ref b]) Q E s:=by
 obtain⟨z,lo,xs,rel,dd⟩:=HW I.iK ha
 obtain⟨z2,Vz,ys,JO,S8⟩:=wz I.iK hb
 have l1:=rel.length
 have l2:=JO.length
 refine call_meetsIn aby dd.typeIs PySem.F.entry_dict_update (PySem.F.args_dict_update_2 _ _) (meets_dict_update (jd X.prog X.w) a b ne Vz) ⟨xs,ys,dd,S8,by omega,fun h' Ke _ hs=>h _ ?_⟩
 have he:∃q,h'.get? a=some q:=let ⟨q,_,_,hq,_⟩:=Ke;⟨q,hq⟩
 exact rZ (t':=s.toks) I (by rw[ha];exact True.intro) hs he (EA (aab (pW _ _) hz) lo (GK JO rel) Ke)
theorem Nj{kvs:List (List Key×V)}{k:List Key}{v:V}{Q:Value→Shared→Prop}(hu:A.units+1<cLine)(I:Inv X pins σ H s)(ha:H a=some (.dT kvs))(hb:H b=some (.tup (k.map kV)))(l:iS kvs k=some v)
   (h:∀w' s',Inv X pins σ (upd H a (.dT (jT kvs k))) s'→RelV v w'→Q w' s'):wpAny (model X.prog X.w) A (call (.builtin "dict.pop") [.ref a,.ref b]) Q E s:=by
 obtain⟨z,lo,xs,rel,dd⟩:=HX I.iK ha
 have l1:=Paired.length rel
 obtain⟨w',hw,Au⟩:=o3.some_of (v:=v) (o:=(atKey xs k).map (·.2)) (by rw[←l];exact rel.val k)
 obtain⟨p,hp,zZ⟩:=aaC.mp hw
 obtain⟨od,Tc,epd,Td,Bf,O9,Ri,S9,Oh⟩:=id dd
 refine wpAny_call_entry abO dd.typeIs PySem.F.entry_dict_pop ?_ (PySem.F.args_dict_pop_2 _ _)
 unfold Builtin.«dict.pop» Builtin.Dict.keyAndDefault
 refine wpAny_bind (wpAny_bind (wpAny_notOrdered_dict dd.typeIs (show wpAny _ _ (pure (a,Value.ref b,none)) _ _ s from wpAny_pure ?_)))
 have part:(keyPart (Value.ref b)).isSome=false:=rfl
 simp only [part,aaU,abJ]
 refine wpAny_bind (wpAny_dictEntries Td O9 (wpAny_bind (wpAny_pure ?_)))
 have ne:Tc.isEmpty=false:=by
   rw[abj]
   intro e
   have e:Tc=#[]:=Array.isEmpty_iff.mp e
   have sz:=size_of_entries Ri
   rw[e] at sz
   have:xs=[]:=aaG.mp sz.symm
   rw[this] at hp
   cases hp
 simp only [ne,aaU,abJ]
 refine wpAny_bind (II (tupleKind_room_in1 hu) (tm I.iK hb) dd (by omega) hp fun h' m hs=>?_)
 simp only [Option.isNone_some,aaU,abJ]
 refine wpAny_bind (wpAny_letGo (wpAny_pure ⟨p.2,rfl,?_⟩))
 rw[zZ]
 refine h w' _ ?_ Au
 obtain⟨q,es,ep,hq,h2,h3,h4,_,h5⟩:=m
 refine rZ I (by rw[ha];exact True.intro) hs ⟨q,hq⟩ ⟨aab (C0 _ _) z,lo,_,(KO rel k).keeps fun c ys ec=>?_,q,es,ep,hq,h2,h3,h4,h5⟩
 rw[de (i_ ec ha (fun z=>nomatch z))]
 exact ec
theorem KP{d:Addr}{es:Array DictEntry}{ep:Nat}{Q:Value→Shared→Prop}{P:Program}{w:World}(lo:(d ==sysModules)=false)(r:vB s.heap d es ep)(fit:(es.size:Int)<2 ^ 63)
   (h:Q (.int es.size (s.toks+1)) {s with toks:=s.toks+1+1}):wpAny (model P w) A (Builtin.«len» ⟨[.ref d],[]⟩) (fun fin s'=>∃r,fin=.done (.ret r)∧Q r s') E s:=by
 obtain⟨o,ho,hc,hd⟩:=id r
 unfold Builtin.«len»
 refine wpAny_bind (m:=oneArg "len" _) (wpAny_pure (wpAny_bind (m:=callSpecial? (.ref d) (Str.ofString "__len__")) (wpAny_callSpecial?_slot (name:=Str.ofString "__len__") r.ty F.slot_dict_len (wpAny_call_entry F.slot_dict_len r.ty F.entry_dict_len ?_ (F.args_dict_len_1 _)))))
 show wpAny _ _ (dictSize d >>= _) _ _ s
 unfold dictSize
 refine wpAny_bind (wpAny_bind (wpAny_dictEntries ho hd (wpAny_pure ?_)))
 show wpAny _ _ (Builtin.Dict.pendingCount d >>= _) _ _ s
 refine wpAny_bind (wpAny_pendingCount_other lo (wpAny_ret_mkInt ?_))
 show wpAny _ _ _ _ _ {s with toks:=s.toks+1}
 refine wpAny_bind (wpAny_holding (wpAny_pure (wpAny_bind (wpAny_letGo ?_))))
 show wpAny _ _ (if((es.size+0:Nat):Int)<0 then _ else _) _ _ _
 rw[aak (by omega),Nat.add_zero]
 show wpAny _ _ (if((es.size:Nat):Int)≥2 ^ 63 then _ else _) _ _ _
 rw[aak (by omega)]
 exact wpAny_bind (wpAny_mkInt (wpAny_pure ⟨_,rfl,h⟩))
theorem EJ{d:Addr}{es:Array DictEntry}{ep:Nat}{Q:Bool→Shared→Prop}{P:Program}{w:World}(lo:(d ==sysModules)=false)(r:vB s.heap d es ep)(fit:(es.size:Int)<2 ^ 63)
   (h:Q ((es.size:Int) != 0) {s with toks:=s.toks+1+1}):wpAny (model P w) A (truthy (.ref d)) Q E s:=by
 have key:wpAny (model P w) A (runValue (.builtin "len" ⟨[.ref d],[]⟩)) (fun r s'=>r=.int es.size (s.toks+1)∧Q ((es.size:Int) != 0) s') E s:=by
   refine wpAny_runValue (codeAny_builtin entry_len ?_)
   rw[Around.under_plainId plain_len _]
   refine wpAny_mono (KP (Q:=fun r s'=>r=.int es.size (s.toks+1)∧Q ((es.size:Int) != 0) s') lo r fit ⟨rfl,h⟩) (fun fin s' h'=>?_) fun _ _ e=>e
   obtain⟨r,rfl,hq⟩:=h'
   exact hq
 unfold truthy
 first
   | refine wpAny_bind (wpAny_callSpecial?_none (name:=Str.ofString "__bool__") r.ty noBool_dict ?_)
   | refine wpAny_bind (wpAny_pure (wpAny_bind (wpAny_callSpecial?_none (name:=Str.ofString "__bool__") r.ty noBool_dict ?_)))
 first
   | refine wpAny_bind (wpAny_specialOf (name:=Str.ofString "__len__") r.ty F.slot_dict_len.lookup ?_)
   | refine wpAny_bind (wpAny_pure (wpAny_bind (wpAny_specialOf (name:=Str.ofString "__len__") r.ty F.slot_dict_len.lookup ?_)))
 first
   | exact wpAny_bind (wpAny_mono key (fun r s' h'=>by obtain⟨rfl,hq⟩:=h';exact wpAny_pure hq) fun _ _ e=>e)
   | exact wpAny_bind (wpAny_pure (wpAny_bind (wpAny_mono key (fun r s' h'=>by obtain⟨rfl,hq⟩:=h';exact wpAny_pure hq) fun _ _ e=>e)))
end
def Nk(td ty:TE):TE:=fun σ H Q=>td σ H fun x H1=>∃a,x=.ref a∧OW H1 a∧ty σ H1 fun y H2=>∃b kvs more,y=.ref b∧H2 a=some (.dT kvs)∧Rd H2 b (.dT more)∧a≠b∧kvs≠[]∧kvs.length+more.length≤sizeLine∧Q .jx (upd H2 a (.dT (putAll kvs more)))
def Nl(td ty:TE):TE:=fun σ H Q=>td σ H fun x H1=>∃a,x=.ref a∧OW H1 a∧ty σ H1 fun y H2=>∃b kvs more,y=.ref b∧H2 a=some (.dK kvs)∧Rd H2 b (.dK more)∧a≠b∧kvs.length+more.length≤sizeLine∧Q .jx (upd H2 a (.dK (putAll kvs more)))
def Nn(td ty:TE):TE:=fun σ H Q=>td σ H fun x H1=>∃a,x=.ref a∧OW H1 a∧ty σ H1 fun y H2=>∃b kvs k v,y=.ref b∧H2 a=some (.dT kvs)∧H2 b=some (.tup (k.map kV))∧iS kvs k=some v∧Q v (upd H2 a (.dT (jT kvs k)))
section
variable{X:Cx}{o e f:Expr}{apos kQ:Pos}{td ty tx:TE}
theorem IK(hu:X.A.units+1<cLine)(ho:PE X o td)(he:PE X e ty)(m:M1 X o "update" apos e kQ):PE X (.Call (.Attribute o "update" apos) [e] [] kQ) (Nk td ty):=by
 intro pins s σ H Q I h
 refine wpAny_Call_method m.base m.jK m.line abi aby PySem.F.type_dict_update (i7 (ho pins s σ H _ I h) fun u s1 ⟨x,H1,I1,rx,a,ex,d,q1⟩=>?_)
 subst ex
 obtain rfl:u=Value.ref a:=rx
 obtain⟨t1,t2,_⟩:=yy I1 d
 refine⟨t1,t2,?_⟩
 rw[m.trees]
 refine Calls.callWith_builtin rfl (Calls.evalArgs_plain (Calls.spliced_cons (i7 (he pins s1 σ H1 _ I1 q1) fun iv s2 ⟨y,H2,I2,ry,b,kvs,more,ey,ha,hb,ne,h0,hz,q2⟩=>Calls.spliced_nil ?_)))
 subst ey
 obtain rfl:iv=Value.ref b:=ry
 exact Nh hu I2 ha hb ne h0 hz fun s3 I3=>⟨.jx,_,I3,rfl,q2⟩
theorem IM(ho:PE X o td)(he:PE X e ty)(m:M1 X o "update" apos e kQ):PE X (.Call (.Attribute o "update" apos) [e] [] kQ) (Nl td ty):=by
 intro pins s σ H Q I h
 refine wpAny_Call_method m.base m.jK m.line abi aby PySem.F.type_dict_update (i7 (ho pins s σ H _ I h) fun u s1 ⟨x,H1,I1,rx,a,ex,d,q1⟩=>?_)
 subst ex
 obtain rfl:u=Value.ref a:=rx
 obtain⟨t1,t2,_⟩:=yy I1 d
 refine⟨t1,t2,?_⟩
 rw[m.trees]
 refine Calls.callWith_builtin rfl (Calls.evalArgs_plain (Calls.spliced_cons (i7 (he pins s1 σ H1 _ I1 q1) fun iv s2 ⟨y,H2,I2,ry,b,kvs,more,ey,ha,hb,ne,hz,q2⟩=>Calls.spliced_nil ?_)))
 subst ey
 obtain rfl:iv=Value.ref b:=ry
 exact Ni I2 ha hb ne hz fun s3 I3=>⟨.jx,_,I3,rfl,q2⟩
theorem IP(hu:X.A.units+1<cLine)(ho:PE X o td)(he:PE X e ty)(m:M1 X o "pop" apos e kQ):PE X (.Call (.Attribute o "pop" apos) [e] [] kQ) (Nn td ty):=by
 intro pins s σ H Q I h
 refine wpAny_Call_method m.base m.jK m.line abi abO PySem.F.type_dict_pop (i7 (ho pins s σ H _ I h) fun u s1 ⟨x,H1,I1,rx,a,ex,d,q1⟩=>?_)
 subst ex
 obtain rfl:u=Value.ref a:=rx
 obtain⟨t1,t2,_⟩:=yy I1 d
 refine⟨t1,t2,?_⟩
 rw[m.trees]
 refine Calls.callWith_builtin rfl (Calls.evalArgs_plain (Calls.spliced_cons (i7 (he pins s1 σ H1 _ I1 q1) fun iv s2 ⟨y,H2,I2,ry,b,kvs,k,v,ey,ha,hb,l,q2⟩=>Calls.spliced_nil ?_)))
 subst ey
 obtain rfl:iv=Value.ref b:=ry
 exact Nj hu I2 ha hb l fun w' s3 I3 Au=>⟨v,_,I3,Au,q2⟩
theorem GL{a:Expr}{ta:TE}(ha:PE X a ta)(he:∀whole,isTrue a X.env whole=(do let v ←whole;standAt a.pos;holding [v] (truthy v))) :
   PT X a (fun σ H Q=>ta σ H fun x H'=>∃p kvs,x=.ref p∧H' p=some (.dT kvs)∧Q (!kvs.isEmpty) H'):=by
 intro pins s σ H Q I h
 refine isTrue_plain (i7 (ha pins s σ H _ I h) fun v s1 ⟨x,H1,I1,r1,p,kvs,ex,hp,q⟩=>?_) (he _)
 subst ex
 obtain rfl:v=Value.ref p:=r1
 obtain⟨lo,hz,es,ep,raw,sz,_⟩:=yM (I1.iK p _ hp)
 have hs:sizeLine=16777216:=sizeLine_eq
 refine EJ lo raw (by omega) ?_
 have e:((es.size:Int) != 0)=!kvs.isEmpty:=by rw[sz];cases kvs<;>simp<;>omega
 rw[e]
 exact⟨H1,I1.tok _,q⟩
end
theorem GN:bootBuiltins "enumerate"=some (.type "enumerate"):=by decide+kernel
section
variable{X:Cx}{pins:List (Addr×Obj)}{σ:St}{H:Hp}{s:Shared}{h':Heap}
theorem Inv.KQ{t':Nat}{a b:Addr}(I:Inv X pins σ H s)(k:∀c o,c≠a→c≠b→s.heap.get? c=some o→h'.get? c=some o)(fa:s_ X pins H a)(fb:s_ X pins H b)
   (ha:∃o,h'.get? a=some o) (hb:∃o,h'.get? b=some o):Inv X pins σ H {s with heap:=h',toks:=t'}:=by
 obtain⟨a0,a1,a2,a3,a4,a5⟩:=fa
 obtain⟨b0,b1,b2,b3,b4,b5⟩:=fb
 have na:∀c u,H c=some u→c≠a:=fun c u e z=>by rw[z,a0] at e;cases e
 have nb:∀c u,H c=some u→c≠b:=fun c u e z=>by rw[z,b0] at e;cases e
 have out:∀c,c∉[a,b]→c≠a∧c≠b:=fun c hc=>⟨fun z=>hc (by simp[z]),fun z=>hc (by simp[z])⟩
 refine I.step (g':=s.gens) (d':=s.drawn) (ch:=[a,b]) (fun c hc=>?_) (fun c o _ _ hc e _=>k c o (out c hc).1 (out c hc).2 e) (fun c o _ _ hc e _=>⟨o.slots,k c o (out c hc).1 (out c hc).2 e⟩) (fun _ _ _ _ n=>n)
   (fun c o hc e=>⟨o,k c o (out c hc).1 (out c hc).2 e⟩) (fun _ _ e=>e) (fun _ _ _ e=>e) (fun c ps e=>⟨#[],by rw[e];simp⟩) (fun m hm=>?_) (fun c u e=>?_) I.bare
 · rcases XY.mp hc with z|z
   · rw[z];exact⟨a3,a1,a4,a5⟩
   · rw[UK.mp z];exact⟨b3,b1,b4,b5⟩
 · obtain⟨o,es,ep,ho,r⟩:=hm
   exact⟨o,es,ep,k _ o (abq a1) (abq b1) ho,r⟩
 · refine(I.iK c u e).xC (fun d v hd q=>k d v ?_ ?_ q) (fun _ q=>q) fun _ _ q=>q
   · rcases hd with z|z
     · rw[z];exact na c u e
     · exact na d _ z
   · rcases hd with z|z
     · rw[z];exact nb c u e
     · exact nb d _ z
end
def Qi(t:TT):TT:=fun σ H Q=>∃M:Bool→Hp→Prop,t σ H M∧∀b H',M b H'→Q b H'
theorem IQ{X:Cx}{e:Expr}{t:TT}(h:PT X e t):PT X e (Qi t):=fun pins s σ H Q I ⟨M,h1,h2⟩=>i7 (h pins s σ H M I h1) fun b s' ⟨H',I',q⟩=>⟨H',I',h2 b H' q⟩
def Qj(K:PySem.W.Frag)(a:Addr):It:=
 ⟨fun i H=>∃xs x,g_ K H a xs∧xs[i]?=some x,fun i H x H'=>∃t y,H t=none∧x=.ref t∧H'=upd H t (.tup [.int i,y])∧∀xs,g_ K H a xs→xs[i]?=some y,fun i H=>∃xs,g_ K H a xs∧xs.length≤i⟩
theorem GO{P:Program}{w:World}{K:PySem.W.Frag}{elts:List Expr}{x1}{pos:Pos}(a e it:Addr)(sX:e≠it):Turn P w K (.Tuple elts x1 pos) (Qj K a) [e,it] e (fun i h=>(∃old,IsEnum h e it ((i:Nat):Int) old)∧h.IsListIter it a i) where
 mem:=by simp
 obj:=fun i h ⟨⟨old,Hi⟩,As⟩ b hb=>by
   rcases XY.mp hb with z|z
   · subst z;exact⟨_,Hi,fun v z=>by have z':Data.fields _=Data.cell v:=z;cases z'⟩
   · rw[UK.mp z]
     obtain⟨o,ho,c,d⟩:=As
     exact⟨o,ho,fun v z=>by rw[d] at z;cases z⟩
 keep:=fun i h h' ⟨⟨old,Hi⟩,As⟩ k=>⟨⟨old,k e (by simp) _ Hi⟩,As.at fun o ho=>k it (by simp) o ho⟩
 item:=by
   intro X hP hw hK hc i pins s σ H E I hf ⟨⟨old,Hi⟩,As⟩ hg
   subst hP hw hK
   obtain⟨xs,x,hq,hx⟩:=hg
   obtain⟨ia,rv,p,hz⟩:=I.list hq
   obtain⟨u,hu,ru⟩:=rv.get hx
   have fe:=hf e (by simp)
   have fi:=hf it (by simp)
   have VA:e<s.heap.objs.size:=Heap.lt_size Hi
   refine wpAny_pyNext_enum_item Hi As p.isList (x:=u) (by simpa using hu) sX fun h₁ JH VB ht₁ hz₁ hk₁=>?_
   refine⟨_,rfl,?_⟩
   refine wpAny_letOwnedTupleGo_enum JH fun h₂ YF Rm=>?_
   replace Rm:Heap.SameBut e h₁ h₂:=Rm
   have ht₂:h₂.get? s.heap.objs.size=some {cls:=.type "tuple",data:=.seq #[.int i s.toks,u]}:=(Rm.2 _ (Nat.ne_of_gt VA)).trans ht₁
   have Rn:h₂.IsListIter it a (i+1):=VB.extBut Rm.extBut (abq sX)
   have Ra:H s.heap.objs.size=none:=I.iK.fresh (UU _)
   have rT:Vals [.int i,x] [.int i s.toks,u]:=.cons ⟨s.toks,rfl⟩ (.cons ru .nil)
   have I1:Inv X pins σ (upd H s.heap.objs.size (.tup [.int i,x])) {s with heap:=s.heap.push {cls:=.type "tuple",data:=.seq #[.int i s.toks,u]},toks:=s.toks}:=
     I.laid (t':=s.toks) (fun b u e=>Heap.get?_push_of_some _ e) (UU _) ⟨L2.jK,_,rT,⟨_,Heap.get?_push_size _ rfl,rfl,_,rfl⟩⟩
   have up:∀b,s_ X pins H b→b<s.heap.objs.size→s_ X pins (upd H s.heap.objs.size (.tup [.int i,x])) b:=fun b f hb=>by
     obtain⟨f0,r⟩:=f
     exact⟨by rw[de (aaP hb)];exact f0,r⟩
   have O_:it<s.heap.objs.size:=by obtain⟨o,ho,_⟩:=id As;exact Heap.lt_size ho
   obtain⟨oi,Tf,_⟩:=id Rn
   have I2:=I1.KQ (h':=h₂) (t':=s.toks+1) (a:=e) (b:=it) (fun c o h1 h2 hc=>?_) (up e fe VA) (up it fi O_) ⟨_,YF⟩ ⟨oi,Tf⟩
   · refine⟨.ref s.heap.objs.size,_,I2,rfl,⟨_,x,Ra,rfl,rfl,fun ys hy=>by rw[I.o4 hy hq];exact hx⟩,⟨⟨u,?_⟩,Rn⟩,fun b hb=>?_⟩
     · have:((i+1:Nat):Int)=(i:Int)+1:=by push_cast;rfl
       rw[this];exact YF
     · rcases XY.mp hb with z|z
       · subst z;exact(up _ fe VA).1
       · rw[UK.mp z];exact(up it fi O_).1
   · by_cases YG:c=s.heap.objs.size
     · subst YG
       have:(s.heap.push {cls:=.type "tuple",data:=.seq #[.int i s.toks,u]}).get? s.heap.objs.size=some {cls:=.type "tuple",data:=.seq #[.int i s.toks,u]}:=Heap.get?_push_size _ rfl
       rw[this] at hc;cases hc
       exact ht₂
     · have Be:s.heap.get? c=some o:=(Heap.get?_push_cases hc).elim (fun z=>absurd z.1 YG) id
       exact(Rm.2 c h1).trans (hk₁ c o h1 h2 Be)
 done:=by
   intro X hP hw hK hc i pins s σ H E I hf ⟨⟨old,Hi⟩,As⟩ hg
   subst hP hw hK
   obtain⟨xs,hq,hx⟩:=hg
   obtain⟨ia,rv,p,hz⟩:=I.list hq
   obtain⟨f0,f1,f2,f3,f4,f5⟩:=hf it (by simp)
   have hl:=rv.length
   exact wpAny_pyNext_enum_end (I.ok.hd hc) Hi As p.isList (Array.getElem?_eq_none (by simp;omega)) fun h' eb=>⟨rfl,I.turned (t':=s.toks) (fun b o hb e=>eb b o hb e) f0 f1 f3 f4 f5⟩
 self:=fun _ _ _ _ _ ⟨⟨old,Hi⟩,As⟩ h=>wpAny_pyIter_enum Hi h
def Qk(K:PySem.W.Frag)(ta:TA):TI:=fun σ H R=>ta σ H fun vs H1=>∃a,vs=[.ref a]∧(∃xs,g_ K H1 a xs)∧R (Qj K a) H1
section
variable{X:Cx}
theorem KR{a:Expr}{ta:TA}{p pos:Pos}{elts:List Expr}{x1}{Ob:Pos}(hg:Gl X "enumerate")(hm:X.mg "enumerate"=none)(ha:PA X [a] ta)(hs:starEach [a] X.env=[(false,eval a X.env)]:=by rfl):PI X (.Tuple elts x1 Ob) (.Call (.Name "enumerate" p) [a] [] pos) (Qk X.K ta):=by
 intro pins s σ H R I h
 refine Call_ (oO I hg hm GN (aaR (i7 (ha pos pins s σ H _ I h) fun us s1 ⟨vs,H1,I1,r1,q1⟩=>?_) hs rfl))
 obtain⟨l,rfl,⟨xs,hq⟩,q⟩:=q1
 obtain⟨u,rfl,ru⟩:=vals1 r1
 cases (show u=Value.ref l from ru)
 obtain⟨ia,rv,pp,hz⟩:=I1.list hq
 refine call_enumerate_list pp.isList fun h' he hit hsz hk=>?_
 have I2:Inv X pins σ H1 {s1 with heap:=h'}:=I1.kept (t':=s1.toks) hk
 refine wpAny_pyIter_enum he ?_
 refine⟨s1.heap.objs.size+1,[s1.heap.objs.size+1,s1.heap.objs.size],_,_,H1,rfl,I2,GO l (s1.heap.objs.size+1) s1.heap.objs.size (Nat.succ_ne_self _),⟨⟨_,he⟩,hit⟩,fun b hb=>?_,q⟩
 rcases XY.mp hb with z|z
 · subst z;exact I1.yj (by omega) (I1.iK.fresh (by omega))
 · rw[UK.mp z];exact I1.yj (UU _) (I1.iK.fresh (UU _))
theorem IS{K:PySem.W.Frag}{a:Addr}{xs:List V}{g:TG}{tb:TS}{D:Ends}{σ:St}{H:Hp}(Pv:Nat→St→Hp→Prop)(h0:Pv 0 σ H)(hl:∀i σ H,i≤xs.length→Pv i σ H→g_ K H a xs)
   (hs:∀i x t σ H,xs[i]?=some x→Pv i σ H→H t=none→g (.ref t) σ (upd H t (.tup [.int i,x])) fun σ2 H2=>tb {D with nx:=Pv (i+1),ct:=Pv (i+1),bk:=D.nx} σ2 H2) (hd:∀σ H,Pv xs.length σ H→D.nx σ H) :
   ∃W:Nat→Nat→St→Hp→Prop,(∃m,W 0 m σ H)∧∀i m σ H,W i m σ H→
     ((Qj K a).stop i H∧D.nx σ H)∨((Qj K a).go i H∧∃N:St→Hp→Prop,(∀σ' H',N σ' H'→∃m',m'<m∧W (i+1) m' σ' H')∧∀x H',(Qj K a).HI i H x H'→g x σ H' fun σ2 H2=>tb {D with nx:=N,ct:=N,bk:=D.nx} σ2 H2):=by
 refine⟨fun i m σ H=>m=xs.length-i∧i≤xs.length∧Pv i σ H,⟨xs.length,by simp,aaE _,h0⟩,?_⟩
 rintro i m σ H ⟨rfl,hi,p⟩
 have q:=hl i σ H hi p
 by_cases lu:i<xs.length
 · refine .inr ⟨⟨xs,xs[i],q,UN lu⟩,Pv (i+1),fun σ' H' p'=>⟨xs.length-(i+1),by omega,rfl,lu,p'⟩,fun x H' y=>?_⟩
   obtain⟨t,z,ht,rfl,rfl,y⟩:=y
   exact hs i z t σ _ (y xs q) p ht
 · have e:i=xs.length:=by omega
   subst e
   exact .inl ⟨⟨xs,q,UU _⟩,hd σ H p⟩
end
structure DF(K:PySem.W.Frag)(mg:Str→Option Value)(x:Str)(st:Stmt)(a:Addr)(d:FuncData)(ps:List Str):Prop where
 f:AL K x x st a d
 b:Binds K d ps []
 m:mg x=some (.ref a)
structure DM(K:PySem.W.Frag)(C:Addr)(x q:Str)(st:Stmt)(a:Addr)(d:FuncData)(ps:List Str):Prop where
 f:AL K x q st a d
 b:Binds K d ps []
 t:Meth K C x a
def FI(K:PySem.W.Frag)(x:Str)(st:Stmt)(f:Addr):Prop:=PySem.W.nsIn K mainGlobals x=some (some (.ref f))∧∃d,AL K x x st f d
def MI(K:PySem.W.Frag)(C:Addr)(x q:Str)(st:Stmt)(f:Addr):Prop:=Meth K C x f∧∃d,AL K x q st f d
section
variable{K:PySem.W.Frag}{x q:Str}{st:Stmt}{f C:Addr}{oc kV doc pm jL ct:Value}{od an:Option Addr}{Hy:Array (Option Value)}
theorem Ql(a:PySem.W.nsIn K mainGlobals x=some (some (.ref f)))(l:K.lookup f=some ⟨oc,od,.func (PySem.W.fnOf x x (pT st) (mZ st) (fO st) .none kV doc pm an jL ct),Hy⟩)(c:PySem.W.codeIn K jL x=true)(k:PySem.W.keepIn K (.ref f)=true):FI K x st f:=⟨a,_,Ie l c k⟩
theorem Qm(a:PySem.W.findIn K (.ref C) x=some (some (.ref f)))(i:PySem.W.isFn K (.ref f)=true)(l:K.lookup f=some ⟨oc,od,.func (PySem.W.fnOf x q (pT st) (mZ st) (fO st) .none kV doc pm an jL ct),Hy⟩)(c:PySem.W.codeIn K jL q=true)(k:PySem.W.keepIn K (.ref f)=true):MI K C x q st f:=⟨⟨a,i,k⟩,_,Ie l c k⟩
end
theorem IT{X:Cx}{st:Stmt}{t:TS}(h:PS X st t):PS X st (fun D σ H=>∃d o u,H d=some (.mK o u)∧yI X d∧t D σ (upd H d u)):=fun pins s σ H D I ⟨d,o,u,hd,nf,q⟩=>h pins s σ _ D (I.vy hd nf) q
theorem GQ{α:Type}{us:List α}(h:us.length=1):∃a,us=[a]:=by
 match us,h with
 | [a],_=>exact⟨a,rfl⟩
theorem ln2{α:Type}{us:List α}(h:us.length=2):∃a b,us=[a,b]:=by
 match us,h with
 | [a,b],_=>exact⟨a,b,rfl⟩
theorem EK{α:Type}{us:List α}(h:us.length=3):∃a b c,us=[a,b,c]:=by
 match us,h with
 | [a,b,c],_=>exact⟨a,b,c,rfl⟩
theorem SR{α:Type}{us:List α}(h:us.length=4):∃a b c d,us=[a,b,c,d]:=by
 match us,h with
 | [a,b,c,d],_=>exact⟨a,b,c,d,rfl⟩
theorem UR{α:Type}{us:List α}(h:us.length=5):∃a b c d e,us=[a,b,c,d,e]:=by
 match us,h with
 | [a,b,c,d,e],_=>exact⟨a,b,c,d,e,rfl⟩
theorem XZ{α:Type}{us:List α}(h:us.length=6):∃a b c d e f,us=[a,b,c,d,e,f]:=by
 match us,h with
 | [a,b,c,d,e,f],_=>exact⟨a,b,c,d,e,f,rfl⟩
def X0(N P:List Str)(sc:Scope):Bool:=decide (sc.kind=.function)&&!sc.isCoroutine&&!sc.isGenerator&&decide N.Nodup&&decide (N.take P.length=P)&&P.all (fun x=>decide (sc.names.lookup x=some .local)||decide (sc.names.lookup x=some .cell))&&sc.names.all (fun y=>decide (y.2≠.free))
theorem mL{N P:List Str}{sc:Scope}(h:X0 N P sc=true):gw N P sc:=by
 unfold X0 at h
 simp only [aaX,abx,Bool.not_eq_true',abn,abW] at h
 obtain⟨⟨⟨⟨⟨⟨a,b⟩,c⟩,d⟩,e⟩,f⟩,g⟩:=h
 exact⟨a,b,c,d,e,f,g⟩
section
variable{X:Cx}{x q m:Str}{st:Stmt}{f C:Addr}{fd:FuncData}{ps:List Str}{sp:Sp}{k j:Nat}{e o:Expr}{es:List Expr}{t:TA}{ta:TE}{p pos apos:Pos}{E:XK}
theorem pN(D:DF X.K X.mg x st f fd ps)(F:iw X.prog X.w X.K X.mg X.base m_ k f fd ps sp)(hr:kF j X.A)(ha:PA X (e::es) t)(hk:k≤j:=by decide)(hg:Gl X x:=by rfl)(D2:(x ==("__debug__":Str))=false:=by decide)(he:starEach (e::es) X.env=(false,eval e X.env)::starEach es X.env:=by rfl)(pM:(backTo pos (starEach es X.env)).any (·.1)=false:=by rfl):PE X (.Call (.Name x p) (e::es) [] pos) (HP sp [] E0 t):=ud F (hr.mono hk) hg D.m D.f.kp D.b .nil oa ha D2 he pM
theorem US(b:Bx X E)(D:DF X.K X.mg x st f fd ps)(F:iw X.prog X.w X.K X.mg X.base (tw X.prog X.w) k f fd ps sp)(hr:kF j X.A)(ha:PA X (e::es) t)(hk:k≤j:=by decide)(hg:Gl X x:=by rfl)(D2:(x ==("__debug__":Str))=false:=by decide)(he:starEach (e::es) X.env=(false,eval e X.env)::starEach es X.env:=by rfl)(pM:(backTo pos (starEach es X.env)).any (·.1)=false:=by rfl):PE X (.Call (.Name x p) (e::es) [] pos) (HP sp [] E t):=ud F (hr.mono hk) hg D.m D.f.kp D.b .nil (LZ b) ha D2 he pM
theorem tD{pl:Sem Bool}(h:PE X o ta)(c:CP X.K C)(D:DM X.K C m q st f fd ps)(F:iw X.prog X.w X.K X.mg X.base m_ k f fd ps sp)(hr:kF j X.A)(ha:PA X (e::es) t)(hk:k≤j:=by decide)(xS:starEach (e::es) X.env=(false,eval e X.env)::starEach es X.env:=by rfl)(pM:(backTo pos (starEach es X.env)).any (·.1)=false:=by rfl)
   (ht:eval (.Call (.Attribute o m apos) (e::es) [] pos) X.env=(do
     let ov ←eval o X.env
     standAt apos.atName
     let (f,first) ←holding [ov] (getMethod ov m pl)
     callWith pos f first (backTo pos (starEach (e::es) X.env)) (backToKw pos (keywordEach [] X.env))):=by rfl):PE X (.Call (.Attribute o m apos) (e::es) [] pos) (CQ C m sp [] E0 ta t):=Fw h c D.t F (hr.mono hk) D.b .nil oa ha xS pM ht
theorem Aa(b:Bx X E){pl:Sem Bool}(h:PE X o ta)(c:CP X.K C)(D:DM X.K C m q st f fd ps)(F:iw X.prog X.w X.K X.mg X.base (tw X.prog X.w) k f fd ps sp)(hr:kF j X.A)(ha:PA X (e::es) t)(hk:k≤j:=by decide)(xS:starEach (e::es) X.env=(false,eval e X.env)::starEach es X.env:=by rfl)(pM:(backTo pos (starEach es X.env)).any (·.1)=false:=by rfl)
   (ht:eval (.Call (.Attribute o m apos) (e::es) [] pos) X.env=(do
     let ov ←eval o X.env
     standAt apos.atName
     let (f,first) ←holding [ov] (getMethod ov m pl)
     callWith pos f first (backTo pos (starEach (e::es) X.env)) (backToKw pos (keywordEach [] X.env))):=by rfl):PE X (.Call (.Attribute o m apos) (e::es) [] pos) (CQ C m sp [] E ta t):=Fw h c D.t F (hr.mono hk) D.b .nil (LZ b) ha xS pM ht
end
end L2
namespace K01
section
variable{α:Type}[DecidableEq α]
def lcs:List α→List α→Nat
 | [],_=>0
 | _::_,[]=>0
 | a::as,b::bs=>if b=a then lcs as bs+1 else max (lcs as (b::bs)) (lcs (a::as) bs)
termination_by x y=>x.length+y.length
def nJ(x y:List α)(n:Nat):Prop:=(∀s:List α,s.Sublist x→s.Sublist y→s.length≤n)∧∃s:List α,s.Sublist x∧s.Sublist y∧s.length=n
theorem nJ.uniq{x y:List α}{n m:Nat}(h:nJ x y n)(g:nJ x y m):n=m:=by
 obtain⟨h1,s,a,b,e⟩:=h
 obtain⟨g1,t,c,d,f⟩:=g
 have:=g1 s a b
 have:=h1 t c d
 omega
theorem nJ.Dd(y:List α):nJ [] y 0:=⟨fun s a _=>by have:=a.length_le;simpa using this,[],aaw _,List.nil_sublist _,rfl⟩
theorem nJ.AU(x:List α):nJ x [] 0:=⟨fun s _ b=>by have:=b.length_le;simpa using this,[],List.nil_sublist _,aaw _,rfl⟩
theorem lD{s as:List α}{a:α}(h:s.Sublist (a::as)):s.Sublist as∨∃t,s=a::t∧t.Sublist as:=by
 cases h with
 | cons _ h=>exact .inl h
 | cons_cons _ h=>exact .inr ⟨_,rfl,h⟩
theorem nJ.eq{as bs:List α}{a:α}{n:Nat}(h:nJ as bs n):nJ (a::as) (a::bs) (n+1):=by
 obtain⟨h1,s,x,y,e⟩:=h
 refine⟨fun t c d=>?_,a::s,x.cons_cons a,y.cons_cons a,by rw[aae,e]⟩
 rcases lD c with c2|⟨u,e2,c2⟩
 · rcases lD d with d2|⟨v,e3,d2⟩
   · have:=h1 t c2 d2;omega
   · subst e3
     have:=h1 v ((abc a v).trans c2) d2
     rw[aae];omega
 · have d':u.Sublist bs:=by
     subst e2
     rcases lD d with d2|⟨v,e',d2⟩
     · exact(abc a u).trans d2
     · cases e';exact d2
   have:=h1 u c2 d'
   subst e2
   rw[aae];omega
theorem nJ.ne{as bs:List α}{a b:α}{n m:Nat}(Gd:a≠b)(h:nJ as (b::bs) n)(g:nJ (a::as) bs m):nJ (a::as) (b::bs) (max n m):=by
 obtain⟨h1,s,x,y,e⟩:=h
 obtain⟨g1,s',x',y',e'⟩:=g
 refine⟨fun t c d=>?_,?_⟩
 · rcases lD c with c'|⟨u,rfl,_⟩
   · have:=h1 t c' d;omega
   · rcases lD d with d'|⟨v,e,_⟩
     · have:=g1 _ c d';omega
     · cases e;exact absurd rfl Gd
 · by_cases Pa:m≤n
   · exact⟨s,x.cons a,y,by omega⟩
   · exact⟨s',x',y'.cons b,by omega⟩
theorem j1:∀x y:List α,nJ x y (lcs x y)
 | [],y=>by rw[lcs];exact .Dd y
 | a::as,[]=>by rw[lcs];exact .AU _
 | a::as,b::bs=>by
   rw[lcs]
   by_cases h:b=a
   · rw[aar h];subst h;exact(j1 as bs).eq
   · rw[aak h];exact .ne (fun e=>h e.symm) (j1 as (b::bs)) (j1 (a::as) bs)
termination_by x y=>x.length+y.length
theorem KS(x:List α):lcs x []=0:=(j1 x []).uniq (.AU x)
theorem FE(y:List α):lcs [] y=0:=(j1 [] y).uniq (.Dd y)
theorem yO{x x' y y':List α}(h:x.Sublist x')(g:y.Sublist y'):lcs x y≤lcs x' y':=by
 obtain⟨_,s,a,b,e⟩:=j1 x y
 rw[←e]
 exact(j1 x' y').1 s (a.trans h) (b.trans g)
theorem De(x y:List α):lcs x y≤x.length:=by
 obtain⟨_,s,a,b,e⟩:=j1 x y
 rw[←e];exact a.length_le
def jc(a:α)(new:List α)(j:Nat):Option Nat:=((new.drop j).findIdx? (·=a)).map (j+·)
def o8(new:List α):Nat→List α→Nat→List (Nat×Nat)
 | _,[],_=>[]
 | i,a::as,j=>match jc a new j with
   | none=>o8 new (i+1) as j
   | some k=>if lcs as (new.drop (k+1))+1=lcs (a::as) (new.drop j) then(i,k)::o8 new (i+1) as (k+1) else o8 new (i+1) as j
def kept(old new:List α):List (Nat×Nat):=o8 new 0 old 0
theorem kx{a:α}{new:List α}{j k:Nat}(h:jc a new j=some k):j≤k∧new[k]?=some a∧∀l,j≤l→l<k→new[l]?≠some a:=by
 unfold jc at h
 cases e:(new.drop j).findIdx? (·=a) with
 | none=>rw[e] at h;cases h
 | some d=>
   rw[e] at h
   have h:j+d=k:=aau h
   subst h
   obtain⟨hd,h1,h2⟩:=List.findIdx?_eq_some_iff_getElem.mp e
   have h1:(new.drop j)[d]=a:=by simpa using h1
   refine⟨Nat.le_add_right _ _,?_,fun l hl hk q=>?_⟩
   · rw[←abK,UN hd,h1]
   · have:=h2 (l-j) (by omega)
     have hq:(new.drop j)[l-j]?=some a:=by rw[abK,show j+(l-j)=l by omega];exact q
     obtain⟨hh,he⟩:=Rt.mp hq
     simp[he] at this
theorem nK{a:α}{new:List α}{j:Nat}(h:jc a new j=none):∀l,j≤l→new[l]?≠some a:=by
 unfold jc at h
 cases e:(new.drop j).findIdx? (·=a) with
 | some d=>rw[e] at h;cases h
 | none=>
   intro l hl q
   have hq:(new.drop j)[l-j]?=some a:=by rw[abK,show j+(l-j)=l by omega];exact q
   have:=List.findIdx?_eq_none_iff.mp e a (UT hq)
   simp at this
theorem IU{a:α}{as y:List α}(h:a∉y):lcs (a::as) y=lcs as y:=by
 refine(j1 (a::as) y).uniq ⟨fun s c d=>?_,?_⟩
 · rcases lD c with c|⟨t,rfl,c⟩
   · exact(j1 as y).1 s c d
   · exact absurd (d.subset aal) h
 · obtain⟨_,s,c,d,e⟩:=j1 as y
   exact⟨s,c.cons a,d,e⟩
theorem pX{new:List α}{k:Nat}{a:α}(h:new[k]?=some a):new.drop k=a::new.drop (k+1):=by
 obtain⟨hk,e⟩:=Rt.mp h
 rw[aaI hk,e]
theorem yP{new:List α}{j k:Nat}(h:j≤k):(new.drop k).Sublist (new.drop j):=by
 have:new.drop k=(new.drop j).drop (k-j):=by rw[List.drop_drop];congr 1;omega
 rw[this];exact List.drop_sublist _ _
theorem BA{a:α}{as new:List α}{j l:Nat}(hl:j≤l)(h:new[l]?=some a):lcs as (new.drop (l+1))+1≤lcs (a::as) (new.drop j):=by
 have:lcs (a::as) (new.drop l)≤lcs (a::as) (new.drop j):=yO (aaw _) (yP hl)
 rw[pX h,lcs,aar rfl] at this
 exact this
theorem yQ{a:α}{as new:List α}{j k:Nat}(h:jc a new j=some k)(sX:lcs as (new.drop (k+1))+1≠lcs (a::as) (new.drop j)):lcs (a::as) (new.drop j)=lcs as (new.drop j):=by
 obtain⟨Rp,hk,LB⟩:=kx h
 have h1:=BA (as:=as) Rp hk
 have h2:lcs as (new.drop j)≤lcs (a::as) (new.drop j):=yO (abc a as) (aaw _)
 obtain⟨hs,s,c,d,e⟩:=j1 (a::as) (new.drop j)
 rcases lD c with c2|⟨t,es,c2⟩
 · have:=(j1 as (new.drop j)).1 s c2 d;omega
 · exfalso
   subst es
   have key:∀(n:Nat)(j:Nat),k-j=n→j≤k→(∀l,j≤l→l<k→new[l]?≠some a)→(a::t).Sublist (new.drop j)→t.Sublist (new.drop (k+1)):=by
     intro n
     induction n with
     | zero=>
       intro j e1 e2 _ d
       have:j=k:=by omega
       subst this
       rw[pX hk] at d
       rcases lD d with d|⟨u,e,d⟩
       · exact(abc a t).trans d
       · cases e;exact d
     | succ n ih=>
       intro j e1 e2 hm d
       have hj:j<new.length:=by
         have:=(Rt.mp hk).1;omega
       rw[aaI hj] at d
       rcases lD d with d|⟨u,e,_⟩
       · exact ih (j+1) (by omega) (by omega) (fun l hl=>hm l (by omega)) d
       · exfalso
         have e0:a=new[j]:=(List.cons.inj e).1
         exact hm j (UU _) (by omega) (by rw[UN hj,←e0])
   have ht:=key _ j rfl Rp LB d
   have:=(j1 as (new.drop (k+1))).1 t c2 ht
   rw[aae] at e
   omega
theorem GR{a:α}{as new:List α}{j:Nat}(h:jc a new j=none):lcs (a::as) (new.drop j)=lcs as (new.drop j):=by
 refine IU fun m=>?_
 obtain⟨l,hl⟩:=aaH.mp m
 rw[abK] at hl
 exact nK h (j+l) (Nat.le_add_right _ _) hl
theorem lE(new:List α):∀(old:List α)(i j:Nat),(o8 new i old j).length=lcs old (new.drop j)
 | [],i,j=>by rw[o8,FE];rfl
 | a::as,i,j=>by
   unfold o8
   cases h:jc a new j with
   | none=>simp only;rw[lE new as,GR h]
   | some k=>
     simp only
     by_cases hc:lcs as (new.drop (k+1))+1=lcs (a::as) (new.drop j)
     · rw[aar hc,aae,lE new as];exact hc
     · rw[aak hc,lE new as,yQ h hc]
inductive Good(old new:List α):Nat→Nat→List (Nat×Nat)→Prop
 | nil (i j):Good old new i j []
 | cons {i j p q r} (h1:i≤p) (h2:j≤q) (a:α) (e1:old[p]?=some a) (e2:new[q]?=some a)
     (h3:∀l m,i≤l→l≤p→j≤m→(l<p∨m<q)→∀b,old[l]?=some b→new[m]?=some b→¬r.length≤lcs (old.drop (l+1)) (new.drop (m+1)))
     (t:Good old new (p+1) (q+1) r):Good old new i j ((p,q)::r)
theorem Good.back{old new:List α}{i j:Nat}{a:α}{r:List (Nat×Nat)}(ha:old[i]?=some a)(hl:r.length=lcs (old.drop (i+1)) (new.drop j))(hn:∀m,j≤m→new[m]?=some a→lcs (old.drop (i+1)) (new.drop (m+1))+1≠r.length∧lcs (old.drop (i+1)) (new.drop (m+1))+1≤r.length)
   (h:Good old new (i+1) j r):Good old new i j r:=by
 cases h with
 | nil=>exact .nil _ _
 | @cons _ _ p q r h1 h2 b e1 e2 h3 t=>
   refine .cons (by omega) h2 b e1 e2 (fun l m VC JK hm lu c c1 c2 hle=>?_) t
   by_cases e:l=i
   · subst e
     rw[ha] at c1
     cases c1
     have z:=hn m hm c2
     rw[aae] at z
     omega
   · exact h3 l m (by omega) JK hm lu c c1 c2 hle
theorem pY{old new:List α}:∀(rest:List α)(i j:Nat),old.drop i=rest→Good old new i j (o8 new i rest j)
 | [],i,j,_=>by rw[o8];exact .nil _ _
 | a::as,i,j,e=>by
   have ha:old[i]?=some a:=by
     have:(old.drop i)[0]?=some a:=by rw[e];rfl
     rwa [abK,Nat.add_zero] at this
   have e':old.drop (i+1)=as:=by
     have:=pX ha;rw[e] at this;exact(List.cons.inj this).2.symm
   have L:=lE new as (i+1) j
   unfold o8
   cases h:jc a new j with
   | none=>
     simp only
     refine Good.back ha (by rw[L,e']) (fun m hm q=>absurd q (nK h m hm)) (pY as (i+1) j e')
   | some k=>
     obtain⟨Rp,hk,LB⟩:=kx h
     simp only
     by_cases hc:lcs as (new.drop (k+1))+1=lcs (a::as) (new.drop j)
     · rw[aar hc]
       refine .cons (UU _) Rp a ha hk (fun l m VC JK hm lu b c1 c2 _=>?_) (pY as (i+1) (k+1) e')
       have:l=i:=by omega
       subst this
       rw[ha] at c1
       cases c1
       exact LB m hm (by omega) c2
     · rw[aak hc]
       have S:=yQ h hc
       refine Good.back ha (by rw[L,e']) (fun m hm q=>?_) (pY as (i+1) j e')
       rw[L,e',←S]
       have h1:=BA (as:=as) hm q
       refine⟨fun z=>?_,h1⟩
       have hkm:k≤m:=by
         rcases Nat.lt_or_ge m k with z'|z'
         · exact absurd q (LB m hm z')
         · exact z'
       have h2:lcs as (new.drop (m+1))≤lcs as (new.drop (k+1)):=yO (aaw _) (yP (by omega))
       have h3:=BA (as:=as) Rp hk
       omega
theorem GS(old new:List α):Good old new 0 0 (kept old new):=pY old 0 0 rfl
theorem wD(old new:List α):(kept old new).length=lcs old new:=lE new old 0 0
def pre(old new:List α)(i k:Nat):Nat:=lcs (old.take i) (new.take k)
def vC(old new:List α)(i j:Nat):Nat:=lcs (old.drop i) (new.drop j)
theorem x_{old new:List α}{i j:Nat}(h:old.length≤i∨new.length≤j):vC old new i j=0:=by
 unfold vC
 rcases h with h|h
 · rw[List.drop_eq_nil_of_le h,FE]
 · rw[List.drop_eq_nil_of_le h,KS]
theorem KU{old new:List α}{i j:Nat}{a b:α}(ha:old[i]?=some a)(hb:new[j]?=some b) :
   vC old new i j=if b=a then vC old new (i+1) (j+1)+1 else max (vC old new (i+1) j) (vC old new i (j+1)):=by
 unfold vC
 rw[pX ha,pX hb,lcs,←pX ha,←pX hb]
end
end K01
namespace PM
open PySem
abbrev Nm:=Str×Nat
structure Ln where
 nm:Nm
 tx:Str
 up:Option Nm
 lo:Option Nm
 deriving DecidableEq
structure Pt where
 nm:Str
 file:Option Str
 iH:List Ln
 j2:List Nm
 other:Option Str
 deriving DecidableEq
def qC:List Pt→List Str→List Pt
 | [],_=>[]
 | p::r,t=>if p.nm∈t then qC r t else p::qC r (match p.other with|some o=>o::t|none=>t)
def live(ps:List Pt):List Pt:=(qC ps.reverse []).reverse
def hU(ps:List Pt)(f:Str):List Ln:=(ps.filter fun p=>p.file=some f).flatMap (·.iH)
def gone(ps:List Pt):List Nm:=ps.flatMap (·.j2)
def nL(ps:List Pt)(f:Str):List Ln:=(hU (live ps) f).filter fun l=>l.nm∉gone (live ps)
theorem vD:∀(ps:List Pt)(t:List Str),(qC ps t).Sublist ps
 | [],_=>aaw _
 | p::r,t=>by
   unfold qC
   split
   · exact(vD r t).cons p
   · exact(vD r _).cons_cons p
theorem Df(ps:List Pt):(live ps).Sublist ps:=by
 have:=(vD ps.reverse []).reverse
 rwa [List.reverse_reverse] at this
theorem BB{ps qs:List Pt}(h:ps.Sublist qs)(f:Str):(hU ps f).Sublist (hU qs f):=by
 unfold hU
 have h:=h.filter (fun p=>decide (p.file=some f))
 generalize ps.filter _=a at h
 generalize qs.filter _=b at h
 induction h with
 | slnil=>exact aaw _
 | cons x _ ih=>rw[aaz];exact ih.trans (aaV _ _)
 | cons_cons x _ ih=>rw[aaz,aaz];exact(aaw _).append ih
theorem lF(ps:List Pt)(f:Str):(nL ps f).Sublist (hU ps f):=
 aaN.trans (BB (Df ps) f)
def Sa(ls:List Ln)(m n:Nm):Prop:=∃l∈ls,(l.nm=n∧l.up=some m)∨(l.nm=m∧l.lo=some n)
inductive Ah(ls:List Ln):Nm→Nm→Prop
 | one {m n}:Sa ls m n→Ah ls m n
 | SS {m k n}:Ah ls m k→Sa ls k n→Ah ls m n
theorem Ah.last{ls:List Ln}{m n:Nm}:Ah ls m n↔Sa ls m n∨∃k,Ah ls m k∧Sa ls k n:=by
 constructor
 · intro h
   cases h with
   | one x=>exact .inl x
   | SS a x=>exact .inr ⟨_,a,x⟩
 · rintro(x|⟨k,a,x⟩)
   · exact .one x
   · exact .SS a x
def Rk(ls:List Ln)(rk:Nm→Nat):Prop:=∀l∈ls,(∀m,l.up=some m→rk m<rk l.nm)∧(∀m,l.lo=some m→rk l.nm<rk m)
def IV(ls:List Ln):Prop:=∃rk,Rk ls rk
theorem Rk.sa{ls:List Ln}{rk:Nm→Nat}(r:Rk ls rk){m n:Nm}(h:Sa ls m n):rk m<rk n:=by
 obtain⟨l,hl,⟨rfl,e⟩|⟨rfl,e⟩⟩:=h
 · exact(r l hl).1 m e
 · exact(r l hl).2 n e
theorem Rk.ah{ls:List Ln}{rk:Nm→Nat}(r:Rk ls rk){m n:Nm}(h:Ah ls m n):rk m<rk n:=by
 induction h with
 | one x=>exact r.sa x
 | SS _ x ih=>exact Nat.lt_trans ih (r.sa x)
def pZ(ls:List Ln):Prop:=∀l∈ls,(∀m,l.up=some m→m∈ls.map (·.nm))∧(∀m,l.lo=some m→m∈ls.map (·.nm))
theorem pZ.sa{ls:List Ln}(c:pZ ls){m n:Nm}(h:Sa ls m n):m∈ls.map (·.nm)∧n∈ls.map (·.nm):=by
 obtain⟨l,hl,⟨rfl,e⟩|⟨rfl,e⟩⟩:=h
 · exact⟨(c l hl).1 m e,aac hl⟩
 · exact⟨aac hl,(c l hl).2 n e⟩
theorem pZ.ah{ls:List Ln}(c:pZ ls){m n:Nm}(h:Ah ls m n):m∈ls.map (·.nm)∧n∈ls.map (·.nm):=by
 induction h with
 | one x=>exact c.sa x
 | SS _ x ih=>exact⟨ih.1,(c.sa x).2⟩
section
open Classical
variable(lt:Nm→Nm→Prop)
noncomputable def free(ls:List Ln)(l:Ln):Bool:=decide (∀o∈ls,¬lt o.nm l.nm)
noncomputable def sJ:Nat→List Ln→List Ln
 | 0,_=>[]
 | n+1,ls=>match ls.find? (free lt ls) with
   | none=>[]
   | some l=>l::sJ n (ls.filter fun o=>o.nm≠l.nm)
noncomputable def rowOf(ls:List Ln):List Ln:=sJ lt ls.length ls
def ltAt(row:List Ln)(i j:Nat):Prop:=∃a b,row[i]?=some a∧row[j]?=some b∧lt a.nm b.nm
noncomputable def ky(row:List Ln):List (Nat×Nat):=
 (List.range row.length).flatMap fun i=>((List.range' (i+1) (row.length-(i+1))).filter fun j=>decide (¬ltAt lt row i j)).map fun j=>(i,j)
variable{lt}
theorem wF{rk:Nm→Nat}(hr:∀m n,lt m n→rk m<rk n):∀(ls:List Ln),ls≠[]→∃l,ls.find? (free lt ls)=some l:=by
 intro ls hn
 have least:∀(xs:List Ln),xs≠[]→∃l∈xs,∀o∈xs,rk l.nm≤rk o.nm:=by
   intro xs
   induction xs with
   | nil=>intro h;exact absurd rfl h
   | cons x r ih=>
     intro _
     by_cases h:r=[]
     · subst h;exact⟨x,by simp,fun o ho=>by simp at ho;rw[ho];exact UU _⟩
     · obtain⟨l,hl,hm⟩:=ih h
       by_cases hx:rk x.nm≤rk l.nm
       · refine⟨x,by simp,fun o ho=>?_⟩
         rcases XY.mp ho with rfl|ho
         · exact UU _
         · exact aab hx (hm o ho)
       · refine⟨l,aaf _ hl,fun o ho=>?_⟩
         rcases XY.mp ho with rfl|ho
         · omega
         · exact hm o ho
 obtain⟨l,hl,hm⟩:=least ls hn
 have hf:free lt ls l=true:=VE fun o ho lu=>by have:=hr _ _ lu;have:=hm o ho;omega
 cases e:ls.find? (free lt ls) with
 | some x=>exact⟨x,rfl⟩
 | none=>exact absurd hf (by have:=List.find?_eq_none.mp e l hl;simpa using this)
theorem o9{ls:List Ln}(nd:(ls.map (·.nm)).Nodup){l:Ln}(hl:l∈ls):(ls.filter fun o=>o.nm≠l.nm).length+1=ls.length:=by
 induction ls with
 | nil=>cases hl
 | cons x r ih=>
   rw[aas,aaK] at nd
   rcases XY.mp hl with rfl|hl
   · have e:r.filter (fun o=>decide (o.nm≠l.nm))=r:=abB.mpr fun o ho=>VE fun z=>nd.1 (z▸aac ho)
     rw[X_ (by simp),e,aae]
   · have hx:x.nm≠l.nm:=fun z=>nd.1 (z▸aac hl)
     rw[XU (by simpa using hx),aae,aae,ih nd.2 hl]
theorem xF{ls:List Ln}(nd:(ls.map (·.nm)).Nodup)(p:Ln→Bool):((ls.filter p).map (·.nm)).Nodup:=(aaN.map _).nodup nd
theorem yR{rk:Nm→Nat}(hr:∀m n,lt m n→rk m<rk n):∀(n:Nat)(ls:List Ln),n=ls.length→(ls.map (·.nm)).Nodup→(sJ lt n ls).Perm ls
 | 0,ls,e,_=>by
   have:ls=[]:=aaG.mp e.symm
   subst this;exact List.Perm.refl _
 | n+1,ls,e,nd=>by
   have hn:ls≠[]:=fun z=>by subst z;cases e
   obtain⟨l,hf⟩:=wF hr ls hn
   have hl:l∈ls:=List.mem_of_find?_eq_some hf
   unfold sJ
   rw[hf]
   have hlen:=o9 nd hl
   have ih:=yR hr n (ls.filter fun o=>o.nm≠l.nm) (by omega) (xF nd _)
   refine(ih.cons l).trans ?_
   clear ih hf hlen e hn
   induction ls with
   | nil=>cases hl
   | cons x r ih=>
     rw[aas,aaK] at nd
     rcases XY.mp hl with rfl|hl
     · have e:r.filter (fun o=>decide (o.nm≠l.nm))=r:=abB.mpr fun o ho=>VE fun z=>nd.1 (z▸aac ho)
       rw[X_ (by simp),e]
     · have hx:x.nm≠l.nm:=fun z=>nd.1 (z▸aac hl)
       rw[XU (by simpa using hx)]
       exact(List.Perm.swap _ _ _).trans ((ih nd.2 hl).cons x)
theorem EL{rk:Nm→Nat}(hr:∀m n,lt m n→rk m<rk n){ls:List Ln}(nd:(ls.map (·.nm)).Nodup):(rowOf lt ls).Perm ls:=yR hr _ ls rfl nd
end
def Dg(sf:Nm→List Nm)(S:List Nm)(x:Nm):List Nm:=(sf x).filter fun y=>y∉S
inductive Run(sf:Nm→List Nm)(B:Nat):Nat→List Nm→List Nm→Prop
 | nil {S}:Run sf B 0 [] S
 | skip {n x st S}:x∈S→(x::st).length≤B→Run sf B n st S→Run sf B (n+1) (x::st) S
 | fin {n x st S}:x∉S→Dg sf S x=[]→(x::st).length≤B→Run sf B n st (S++[x])→Run sf B (n+1) (x::st) S
 | push {n x st S}:x∉S→Dg sf S x≠[]→(x::st).length≤B→Run sf B n ((Dg sf S x).reverse++x::st) S→Run sf B (n+1) (x::st) S
theorem BC{sf:Nm→List Nm}{S:List Nm}{x:Nm}:Dg sf S x=[]↔∀y∈sf x,y∈S:=by
 unfold Dg
 rw[abG]
 exact⟨fun h y hy=>by simpa using h y hy,fun h y hy=>by simpa using h y hy⟩
theorem KW{sf:Nm→List Nm}{B N:Nat}(cr:Nm→Nat)(hN:∀x,(sf x).length≤N)(hc:∀x y,y∈sf x→cr y<cr x):∀(k:Nat)(x:Nm),cr x≤k→∀(st S:List Nm),st.length+1+N*cr x≤B→
   (∀S',(∀y∈S,y∈S')→x∈S'→∃n,Run sf B n st S')→∃n,Run sf B n (x::st) S:=by
 intro k
 induction k with
 | zero=>
   intro x hx st S hB go
   by_cases hm:x∈S
   · obtain⟨n,r⟩:=go S (fun _ h=>h) hm
     exact⟨n+1,.skip hm (by rw[aae];omega) r⟩
   · have e:Dg sf S x=[]:=BC.mpr fun y hy=>by have:=hc x y hy;omega
     obtain⟨n,r⟩:=go (S++[x]) (fun _ h=>aap _ h) (by simp)
     exact⟨n+1,.fin hm e (by rw[aae];omega) r⟩
 | succ k ih=>
   intro x hx st S hB go
   have hlen:(x::st).length≤B:=by rw[aae];omega
   by_cases hm:x∈S
   · obtain⟨n,r⟩:=go S (fun _ h=>h) hm
     exact⟨n+1,.skip hm hlen r⟩
   · by_cases e:Dg sf S x=[]
     · obtain⟨n,r⟩:=go (S++[x]) (fun _ h=>aap _ h) (by simp)
       exact⟨n+1,.fin hm e hlen r⟩
     ·
       have many:∀(ms:List Nm)(S0:List Nm),(∀y∈ms,y∈sf x)→ms.length≤N→(∀S',(∀y∈S0,y∈S')→(∀y∈ms,y∈S')→∃n,Run sf B n (x::st) S')→∃n,Run sf B n (ms++x::st) S0:=by
         intro ms
         induction ms with
         | nil=>intro S0 _ _ h;exact h S0 (fun _ z=>z) (fun y hy=>by cases hy)
         | cons m r ihm=>
           intro S0 hs hl h
           have LC:=hc x m (hs m aal)
           rw[aae] at hl
           refine ih m (by omega) (r++x::st) S0 ?_ fun S1 h1 Vx=>ihm S1 (fun y hy=>hs y (aaf _ hy)) (by omega) fun S2 h2 h3=>h S2 (fun y hy=>h2 y (h1 y hy)) fun y hy=>?_
           · rw[VJ,aae]
             have:N*cr m+N≤N*cr x:=by rw[←Nat.mul_succ];exact Nat.mul_le_mul_left N LC
             omega
           · rcases XY.mp hy with z|z
             · rw[z];exact h2 m Vx
             · exact h3 y z
       have xT:(Dg sf S x).length≤N:=aab (aaB _ _) (hN x)
       have cont:∀S',(∀y∈S,y∈S')→(∀y∈(Dg sf S x).reverse,y∈S')→∃n,Run sf B n (x::st) S':=fun S' h1 h2=>by
         by_cases Oi:x∈S'
         · obtain⟨n,r⟩:=go S' h1 Oi
           exact⟨n+1,.skip Oi hlen r⟩
         · have e':Dg sf S' x=[]:=BC.mpr fun y hy=>by
             by_cases S6:y∈S
             · exact h1 y S6
             · exact h2 y (List.mem_reverse.mpr (aao.mpr ⟨hy,by simpa using S6⟩))
           obtain⟨n,r⟩:=go (S'++[x]) (fun y hy=>aap _ (h1 y hy)) (by simp)
           exact⟨n+1,.fin Oi e' hlen r⟩
       obtain⟨n,r⟩:=many (Dg sf S x).reverse S (fun y hy=>(aao.mp (List.mem_reverse.mp hy)).1) (by rw[aa7];exact xT) cont
       exact⟨n+1,.push hm e hlen r⟩
def O1(ls:List Ln)(rk:Nm→Nat)(n:Nm):Nat:=(ls.filter fun l=>rk l.nm<rk n).length
theorem Np(ls:List Ln)(rk:Nm→Nat)(n:Nm):O1 ls rk n≤ls.length:=aaB _ _
theorem Nq{ls:List Ln}{rk:Nm→Nat}{m n:Nm}(hm:m∈ls.map (·.nm))(h:rk m<rk n):O1 ls rk m<O1 ls rk n:=by
 unfold O1
 have mono:∀{a b:Ln→Bool} {xs:List Ln},(∀x∈xs,a x=true→b x=true)→(xs.filter a).length≤(xs.filter b).length:=by
   intro a b xs Gd
   induction xs with
   | nil=>exact UU _
   | cons x r ih=>
     have ih:=ih fun y hy=>Gd y (aaf _ hy)
     by_cases ha:a x=true
     · rw[XU ha,XU (Gd x aal ha),aae,aae];omega
     · rw[X_ ha]
       by_cases hb:b x=true
       · rw[XU hb,aae];omega
       · rw[X_ hb];exact ih
 obtain⟨l,hl,rfl⟩:=aaA.mp hm
 obtain⟨a,b,rfl⟩:=List.append_of_mem hl
 rw[aay,aay,VJ,VJ]
 rw[X_ (by simp),XU (by simpa using h),aae]
 have h1:=mono (a:=fun x:Ln=>decide (rk x.nm<rk l.nm)) (b:=fun x=>decide (rk x.nm<rk n)) (xs:=a) fun x _ hx=>by simp at hx ⊢;omega
 have h2:=mono (a:=fun x:Ln=>decide (rk x.nm<rk l.nm)) (b:=fun x=>decide (rk x.nm<rk n)) (xs:=b) fun x _ hx=>by simp at hx ⊢;omega
 omega
theorem len_sub{xs ys:List Nm}(nd:xs.Nodup)(h:∀x∈xs,x∈ys):xs.length≤ys.length:=by
 induction xs generalizing ys with
 | nil=>exact aaE _
 | cons a r ih=>
   rw[aaK] at nd
   obtain⟨p,q,rfl⟩:=List.append_of_mem (h a aal)
   have:=ih (ys:=p++q) nd.2 fun z hz=>by
     have:=h z (aaf _ hz)
     rcases XW.mp this with w|w
     · exact aap _ w
     · rcases XY.mp w with w|w
       · exact absurd (w▸hz) nd.1
       · exact aaD _ w
   rw[VJ] at this
   rw[aae,VJ,aae]
   omega
theorem IW{ls:List Ln}(cl:pZ ls)(tp:IV ls){sf:Nm→List Nm}(hs:∀n,(sf n).Nodup∧∀m,m∈sf n↔Sa ls m n)(x:Nm)(S:List Nm):∃n,Run sf (1+ls.length*ls.length) n [x] S:=by
 obtain⟨rk,hr⟩:=tp
 have VD:∀n,(sf n).length≤ls.length:=fun n=>by
   have:=len_sub (ys:=ls.map (·.nm)) (hs n).1 fun y hy=>(cl.sa (((hs n).2 y).mp hy)).1
   rw[Ro] at this
   exact this
 refine KW (N:=ls.length) (O1 ls rk) VD (fun x y hy=>?_) _ x (UU _) [] S ?_ fun S' _ _=>⟨0,.nil⟩
 · have h:=((hs x).2 y).mp hy
   exact Nq (cl.sa h).1 (hr.sa h)
 · have:=Nat.mul_le_mul_left ls.length (Np ls rk x)
   show 0+1+ls.length*O1 ls rk x≤1+ls.length*ls.length
   omega
def GU(n m:Nat)(qs:List (Nat×Nat)):Prop:=qs.Pairwise (fun a b=>a.1<b.1∧a.2<b.2)∧∀q∈qs,q.1<n∧q.2<m
theorem GV{α:Type}[DecidableEq α]{old new:List α}{i j:Nat}{qs:List (Nat×Nat)}(g:K01.Good old new i j qs):GU old.length new.length qs∧∀q∈qs,i≤q.1∧j≤q.2:=by
 induction g with
 | nil=>exact⟨⟨List.Pairwise.nil,fun q hq=>by cases hq⟩,fun q hq=>by cases hq⟩
 | @cons i j p q r h1 h2 a e1 e2 h3 t ih=>
   obtain⟨⟨h4,h5⟩,h6⟩:=ih
   refine⟨⟨List.Pairwise.cons (fun b hb=>?_) h4,fun b hb=>?_⟩,fun b hb=>?_⟩
   · have:=h6 b hb
     exact⟨by show p<b.1;omega,by show q<b.2;omega⟩
   · rcases XY.mp hb with rfl|hb
     · exact⟨(Rt.mp e1).1,(Rt.mp e2).1⟩
     · exact h5 b hb
   · rcases XY.mp hb with rfl|hb
     · exact⟨h1,h2⟩
     · have:=h6 b hb
       omega
theorem r_{α:Type}[DecidableEq α](old new:List α):GU old.length new.length (K01.kept old new):=(GV (K01.GS old new)).1
def mz(row:List Ln):List (Nat×Nat)→Nat→Option Nm
 | [],_=>none
 | q::r,s=>if q.2=s then(row[q.1]?).map (·.nm) else mz row r s
def tE(row:List Ln)(qs:List (Nat×Nat)):List Nm:=qs.filterMap fun q=>(row[q.1]?).map (·.nm)
theorem BD{row:List Ln}{qs:List (Nat×Nat)}{s:Nat}{m:Nm}(h:mz row qs s=some m):∃q∈qs,q.2=s∧∃l,row[q.1]?=some l∧l.nm=m:=by
 induction qs with
 | nil=>cases h
 | cons q r ih=>
   unfold mz at h
   by_cases e:q.2=s
   · rw[aar e] at h
     obtain⟨l,hl,e2⟩:=aaC.mp h
     exact⟨q,aal,e,l,hl,e2⟩
   · rw[aak e] at h
     obtain⟨q',hq,z⟩:=ih h
     exact⟨q',aaf _ hq,z⟩
theorem BE{row:List Ln}{m:Nat}:∀{qs:List (Nat×Nat)},GU row.length m qs→∀s,(mz row qs s).isSome=decide (s∈qs.map (·.2))
 | [],_,s=>rfl
 | q::r,h,s=>by
   have hr:GU row.length m r:=⟨(List.pairwise_cons.mp h.1).2,fun x hx=>h.2 x (aaf _ hx)⟩
   unfold mz
   by_cases e:q.2=s
   · rw[aar e,UN (h.2 q aal).1,VE (by rw[aas,e];exact aal)];rfl
   · rw[aak e,BE hr s,aas]
     by_cases z:s∈r.map (·.2)
     · rw[VE z,VE (aaf _ z)]
     · rw[aaa z,aaa (fun w=>(XY.mp w).elim (fun w=>e w.symm) z)]
theorem KY{row:List Ln}{qs:List (Nat×Nat)}{m:Nat}{rk:Nm→Nat}(h:GU row.length m qs)(hr:row.Pairwise fun a b=>rk a.nm<rk b.nm){s t:Nat}{a b:Nm}(hs:mz row qs s=some a)(ht:mz row qs t=some b)(xS:s<t):rk a<rk b:=by
 obtain⟨q1,h1,e1,l1,r1,rfl⟩:=BD hs
 obtain⟨q2,h2,e2,l2,r2,rfl⟩:=BD ht
 have lu:q1.1<q2.1:=by
   obtain⟨i,hi,ei⟩:=List.mem_iff_getElem.mp h1
   obtain⟨j,hj,ej⟩:=List.mem_iff_getElem.mp h2
   have hp:=abt.mp h.1
   rcases Nat.lt_trichotomy i j with z|z|z
   · have:=hp i j hi hj z;rw[ei,ej] at this;exact this.1
   · subst z;rw[ei] at ej;subst ej;omega
   · have:=hp j i hj hi z;rw[ei,ej] at this;omega
 obtain⟨g1,w1⟩:=Rt.mp r1
 obtain⟨g2,w2⟩:=Rt.mp r2
 have:=abt.mp hr _ _ g1 g2 lu
 rw[w1,w2] at this
 exact this
def KZ(kn:Nat→Option Nm):Nat→Nat→Option Nm
 | 0,_=>none
 | k+1,i=>match kn (i+1) with|some m=>some m|none=>KZ kn k (i+1)
def sC(p:Str)(kn:Nat→Option Nm):Nat→Nat→Option Nm→List Str→List Ln
 | _,_,_,[]=>[]
 | i,j,u,t::r=>match kn i with
   | some m=>sC p kn (i+1) j (some m) r
   | none=>⟨(p,j),t,u,KZ kn r.length i⟩::sC p kn (i+1) (j+1) (some (p,j)) r
def kA(p:Str)(texts:List Str)(kn:Nat→Option Nm):List Ln:=sC p kn 0 0 none texts
def mj(p f:Str)(row:List Ln)(texts:List Str):Pt:=
 ⟨p,some f,kA p texts (mz row (K01.kept (row.map (·.tx)) texts)),(row.filter fun l=>l.nm∉tE row (K01.kept (row.map (·.tx)) texts)).map (·.nm),none⟩
theorem uj(p:Str)(kn:Nat→Option Nm):∀(r:List Str)(i j:Nat)(u:Option Nm),(sC p kn i j u r).map (·.nm)=(List.range' j (sC p kn i j u r).length).map fun k=>(p,k)
 | [],_,_,_=>rfl
 | t::r,i,j,u=>by
   unfold sC
   cases h:kn i with
   | some m=>exact uj p kn r (i+1) j (some m)
   | none=>
     simp only [aas,aae,abS]
     rw[uj p kn r (i+1) (j+1) (some (p,j))]
theorem yS(p:Str)(kn:Nat→Option Nm):∀(r:List Str)(i j:Nat)(u:Option Nm),(sC p kn i j u r).length=((List.range' i r.length).filter fun k=>(kn k).isNone).length
 | [],_,_,_=>rfl
 | t::r,i,j,u=>by
   unfold sC
   rw[aae,abS]
   cases h:kn i with
   | some m=>rw[X_ (by simp[h])];exact yS p kn r (i+1) j (some m)
   | none=>rw[XU (by simp[h]),aae];simp only [aae];rw[yS p kn r (i+1) (j+1) (some (p,j))]
theorem BF{kn:Nat→Option Nm}{m:Nm}:∀{k i:Nat},KZ kn k i=some m→∃t,i<t∧t≤i+k∧kn t=some m
 | 0,_,h=>by cases h
 | k+1,i,h=>by
   unfold KZ at h
   cases e:kn (i+1) with
   | some m'=>
     rw[e] at h
     cases h
     exact⟨i+1,by omega,by omega,e⟩
   | none=>
     rw[e] at h
     obtain⟨t,h1,h2,h3⟩:=BF (k:=k) (i:=i+1) h
     exact⟨t,by omega,by omega,h3⟩
theorem ya{p:Str}{kn:Nat→Option Nm}:∀(r:List Str)(i j:Nat)(u:Option Nm),∀l∈sC p kn i j u r,∀m,l.up=some m∨l.lo=some m→(u=some m∨∃t,kn t=some m)∨m∈(sC p kn i j u r).map (·.nm)
 | [],_,_,_,l,hl,_,_=>by cases hl
 | t::r,i,j,u,l,hl,m,hm=>by
   unfold sC at hl ⊢
   cases h:kn i with
   | some m'=>
     rw[h] at hl
     rcases ya r (i+1) j (some m') l hl m hm with(z|z)|z
     · exact .inl (.inr ⟨i,by rw[h];exact z⟩)
     · exact .inl (.inr z)
     · exact .inr z
   | none=>
     rw[h] at hl
     rcases XY.mp hl with rfl|hl
     · rcases hm with hm|hm
       · exact .inl (.inl hm)
       · obtain⟨t,_,_,e⟩:=BF hm
         exact .inl (.inr ⟨t,e⟩)
     · rcases ya r (i+1) (j+1) (some (p,j)) l hl m hm with(z|z)|z
       · cases z
         exact .inr (by rw[aas];exact aal)
       · exact .inl (.inr z)
       · exact .inr (aaf _ z)
def IX(rk:Nm→Nat)(kn:Nat→Option Nm):Nat→Nat
 | 0=>0
 | i+1=>match kn i with|some m=>rk m+1|none=>IX rk kn i
def UW(kn:Nat→Option Nm)(n j:Nat):Nat:=(((List.range n).filter fun k=>(kn k).isNone)[j]?).getD 0
def EM(rk:Nm→Nat)(kn:Nat→Option Nm)(p:Str)(n:Nat)(x:Nm):Nat:=if x.1=p then IX rk kn (UW kn n x.2)*(n+1)+x.2+1 else(rk x+1)*(n+1)
theorem IY{rk:Nm→Nat}{kn:Nat→Option Nm}(hk:∀s t a b,kn s=some a→kn t=some b→s<t→rk a<rk b):∀i t b,kn t=some b→i≤t→IX rk kn i≤rk b
 | 0,_,_,_,_=>aaE _
 | i+1,t,b,h,hi=>by
   unfold IX
   cases e:kn i with
   | some m=>exact hk i t m b e h (by omega)
   | none=>exact IY hk i t b h (by omega)
theorem Nr{kn:Nat→Option Nm}{n i:Nat}(hi:i<n)(h:kn i=none):UW kn n ((List.range i).filter fun k=>(kn k).isNone).length=i:=by
 unfold UW
 have e:List.range n=List.range i++i::List.range' (i+1) (n-(i+1)):=by
   have h1:List.range n=List.range i++(List.range' i (n-i)):=by
     have:=List.range'_append_1 (s:=0) (m:=i) (n:=n-i)
     rw[Nat.zero_add,show i+(n-i)=n by omega] at this
     rw[List.range_eq_range',List.range_eq_range',this]
   rw[h1,show n-i=(n-(i+1))+1 by omega,abS]
 rw[e,aay,XU (by simp[h]),aa3 (UU _),Nat.sub_self]
 rfl
theorem BG{rk:Nm→Nat}{kn:Nat→Option Nm}{p:Str}{n:Nat}(hk:∀s t a b,kn s=some a→kn t=some b→s<t→rk a<rk b)(hp:∀s a,kn s=some a→a.1≠p) :
   ∀(r:List Str)(i j:Nat)(u:Option Nm),i+r.length=n→j=((List.range i).filter fun k=>(kn k).isNone).length→(∀m,u=some m→EM rk kn p n m≤IX rk kn i*(n+1)+j)→
     Rk (sC p kn i j u r) (EM rk kn p n)
 | [],_,_,_,_,_,_=>fun l hl=>by cases hl
 | t::r,i,j,u,hn,hj,hu=>by
   rw[aae] at hn
   have Me:i<n:=by omega
   have Hn:j≤i:=by rw[hj];exact aab (aaB _ _) (by rw[abP];exact UU _)
   have e1:(List.range (i+1)).filter (fun k=>(kn k).isNone)=(List.range i).filter (fun k=>(kn k).isNone)++if(kn i).isNone then[i] else[]:=by
     rw[List.range_succ,aay]
     congr 1
     cases h:(kn i).isNone<;>simp[h]
   unfold sC
   cases h:kn i with
   | some m=>
     refine BG hk hp r (i+1) j (some m) (by omega) (by rw[e1,h];simpa using hj) fun m' e=>?_
     cases e
     unfold EM
     rw[aak (hp i m h),IX.eq_2,h]
     show(rk m+1)*(n+1)≤(rk m+1)*(n+1)+j
     omega
   | none=>
     have Oj:EM rk kn p n (p,j)=IX rk kn i*(n+1)+j+1:=by
       unfold EM
       rw[aar rfl,hj,Nr Me h]
     have hb:IX rk kn (i+1)=IX rk kn i:=by rw[IX.eq_2,h]
     intro l hl
     rcases XY.mp hl with rfl|hl
     · refine⟨fun m hm=>?_,fun m hm=>?_⟩
       · have:=hu m hm
         show EM rk kn p n m<EM rk kn p n (p,j)
         omega
       · obtain⟨t',YH,VF,e⟩:=BF hm
         show EM rk kn p n (p,j)<EM rk kn p n m
         have hle:=IY hk i t' m e (by omega)
         rw[Oj]
         unfold EM
         rw[aak (hp t' m e)]
         have h1:IX rk kn i*(n+1)≤rk m*(n+1):=Nat.mul_le_mul_right _ hle
         have h2:(rk m+1)*(n+1)=rk m*(n+1)+(n+1):=Nat.succ_mul _ _
         omega
     · refine BG hk hp r (i+1) (j+1) (some (p,j)) (by omega) (by rw[e1,h,hj];simp) (fun m' e=>?_) l hl
       cases e
       rw[Oj,hb]
       omega
theorem IZ{rk:Nm→Nat}{kn:Nat→Option Nm}{p:Str}(hk:∀s t a b,kn s=some a→kn t=some b→s<t→rk a<rk b)(hp:∀s a,kn s=some a→a.1≠p)(texts:List Str):Rk (kA p texts kn) (EM rk kn p texts.length):=
 BG hk hp texts 0 0 none (by omega) rfl fun m e=>by cases e
theorem I_{rk:Nm→Nat}{kn:Nat→Option Nm}{p:Str}{n:Nat}{ls:List Ln}(r:Rk ls rk)(h:∀l∈ls,l.nm.1≠p∧∀m,l.up=some m∨l.lo=some m→m.1≠p):Rk ls (EM rk kn p n):=by
 intro l hl
 obtain⟨h1,h2⟩:=h l hl
 have e:∀x:Nm,x.1≠p→EM rk kn p n x=(rk x+1)*(n+1):=fun x hx=>by unfold EM;rw[aak hx]
 refine⟨fun m hm=>?_,fun m hm=>?_⟩
 · rw[e _ h1,e _ (h2 m (.inl hm))]
   exact Nat.mul_lt_mul_of_pos_right (Nat.succ_lt_succ ((r l hl).1 m hm)) (Nat.succ_pos _)
 · rw[e _ h1,e _ (h2 m (.inr hm))]
   exact Nat.mul_lt_mul_of_pos_right (Nat.succ_lt_succ ((r l hl).2 m hm)) (Nat.succ_pos _)
theorem Dh{xs ys:List Nat}(nd:xs.Nodup)(h:∀x∈xs,x∈ys):xs.length≤ys.length:=by
 have:=len_sub (xs:=xs.map fun k=>((Str.empty,k):Nm)) (ys:=ys.map fun k=>(Str.empty,k)) (List.pairwise_map.mpr (nd.imp fun h z=>h (aaW Prod.snd z))) fun x hx=>by
   obtain⟨k,hk,rfl⟩:=aaA.mp hx
   exact aac (h k hk)
 rwa [Ro,Ro] at this
theorem yT{α:Type}(p:α→Bool):∀xs:List α,(xs.filter p).length+(xs.filter fun x=>!p x).length=xs.length
 | []=>rfl
 | x::r=>by
   have:=yT p r
   cases h:p x<;>simp[h]<;>omega
theorem FF{row:List Ln}{texts:List Str}{qs:List (Nat×Nat)}(h:GU row.length texts.length qs)(p:Str):(kA p texts (mz row qs)).length+qs.length=texts.length:=by
 unfold kA
 rw[yS,←List.range_eq_range']
 have h2:=yT (fun k=>(mz row qs k).isNone) (List.range texts.length)
 rw[abP] at h2
 have h3:((List.range texts.length).filter fun x=>!(mz row qs x).isNone).length=qs.length:=by
   have nd:(qs.map (·.2)).Nodup:=List.pairwise_map.mpr (h.1.imp fun z e=>by omega)
   refine Nat.le_antisymm ?_ ?_
   · have:=Dh (xs:=(List.range texts.length).filter fun x=>!(mz row qs x).isNone) (ys:=qs.map (·.2)) (List.nodup_range.sublist aaN) fun x hx=>by
       have h4:=(aao.mp hx).2
       have h5:(mz row qs x).isSome=true:=by cases e:mz row qs x<;>simp[e] at h4 ⊢
       rw[BE h] at h5
       exact aam h5
     rwa [Ro] at this
   · have:=Dh (xs:=qs.map (·.2)) (ys:=(List.range texts.length).filter fun x=>!(mz row qs x).isNone) nd fun x hx=>by
       refine aao.mpr ⟨abQ.mpr ?_,?_⟩
       · obtain⟨q,hq,rfl⟩:=aaA.mp hx
         exact(h.2 q hq).2
       · have h5:=BE h x
         rw[VE hx] at h5
         cases e:mz row qs x<;>simp[e] at h5 ⊢
     rwa [Ro] at this
 omega
structure Dk where
 made:List Pt
 ir:Str→List Str
 stores:List Str
 held:Str→List Str
def named(p:Pt):List Nm:=p.j2++p.iH.flatMap fun l=>l.up.toList++l.lo.toList
def iN(p:Pt):List Str:=((named p).filter fun n=>n.1≠p.nm).map (·.1)++p.other.toList
def sd(nd:Str→List Str)(p:Pt):List Str:=(iN p).flatMap fun y=>y::nd y
namespace Dk
def names(D:Dk):List Str:=D.made.map (·.nm)
def keep(D:Dk)(s:Str)(p:Pt):Dk:=⟨D.made++[p],fun x=>if x=p.nm then sd D.ir p else D.ir x,D.stores,fun t=>if t=s then D.held s++[p.nm] else D.held t⟩
def begin(D:Dk)(s:Str):Dk:=⟨D.made,D.ir,D.stores++[s],fun t=>if t=s then[] else D.held t⟩
def pO(D:Dk)(s:Str):List Pt:=D.made.filter fun p=>p.nm∈D.held s
def has(D:Dk)(s:Str):List Str:=D.names.filter fun x=>x∈D.held s
def jh(D:Dk)(x:Str):List Str:=D.names.filter fun y=>y∈D.ir x
def nc(D:Dk)(s x:Str):List Str:=(D.jh x++[x]).filter fun y=>y∉D.held s
def take(D:Dk)(s x:Str):Dk:=⟨D.made,D.ir,D.stores,fun t=>if t=s then D.held s++D.nc s x else D.held t⟩
def drop(D:Dk)(s x:Str):Dk:=⟨D.made,D.ir,D.stores,fun t=>if t=s then(D.held s).filter (fun y=>y≠x) else D.held t⟩
noncomputable def row(D:Dk)(s f:Str):List Ln:=rowOf (Ah (hU (D.pO s) f)) (nL (D.pO s) f)
noncomputable def xG(D:Dk)(s f:Str):List (Nat×Nat):=ky (Ah (hU (D.pO s) f)) (D.row s f)
theorem FG(D:Dk)(s:Str):D.has s=(D.pO s).map (·.nm):=by
 unfold has pO names
 rw[List.filter_map];rfl
end Dk
structure Inv(D:Dk):Prop where
 nd:D.names.Nodup
 GW:∀p∈D.made,p.iH.map (·.nm)=(List.range p.iH.length).map fun j=>(p.nm,j)
 refs:∀p∈D.made,∀l∈p.iH,∀m,l.up=some m∨l.lo=some m→∃q∈D.made,q.file=p.file∧m∈q.iH.map (·.nm)∧(q.nm=p.nm∨q.nm∈D.ir p.nm)
 rank:∃rk,∀p∈D.made,Rk p.iH rk
 before:∀i p,D.made[i]?=some p→∀x∈D.ir p.nm,x∈(D.made.take i).map (·.nm)
 trans:∀x∈D.names,∀y∈D.ir x,∀z∈D.ir y,z∈D.ir x
 stN:D.stores.Nodup
 lS:∀s∈D.stores,∀x∈D.held s,x∈D.names∧∀y∈D.ir x,y∈D.held s
 uk:∀s∈D.stores,(D.held s).Nodup
theorem qT{p:Pt}(h:p.iH.map (·.nm)=(List.range p.iH.length).map fun j=>(p.nm,j)){m:Nm}(hm:m∈p.iH.map (·.nm)):m.1=p.nm:=by
 rw[h] at hm
 obtain⟨j,_,rfl⟩:=aaA.mp hm
 rfl
theorem EN{ps:List Pt}(nd:(ps.map (·.nm)).Nodup)(h:∀p∈ps,p.iH.map (·.nm)=(List.range p.iH.length).map fun j=>(p.nm,j)):((ps.flatMap (·.iH)).map (·.nm)).Nodup:=by
 induction ps with
 | nil=>exact aa6
 | cons x r ih=>
   rw[aas,aaK] at nd
   rw[aaz,aaq,aaO]
   refine⟨?_,ih nd.2 fun p hp=>h p (aaf _ hp),fun a ha b hb e=>?_⟩
   · rw[h x aal]
     exact List.pairwise_map.mpr (List.nodup_range.imp fun z e=>z (aaW Prod.snd e))
   · have e1:=qT (h x aal) ha
     obtain⟨l,hl,rfl⟩:=aaA.mp hb
     obtain⟨q,hq,hlq⟩:=aa2.mp hl
     have e2:=qT (h q (aaf _ hq)) (aac hlq)
     exact nd.1 (by rw[←e1,e,e2];exact aac hq)
theorem lG{ps:List Pt}{f:Str}{l:Ln}:l∈hU ps f↔∃p∈ps,p.file=some f∧l∈p.iH:=by
 unfold hU
 rw[aa2]
 constructor
 · rintro⟨p,hp,hl⟩
   obtain⟨h1,h2⟩:=aao.mp hp
   exact⟨p,h1,aam h2,hl⟩
 · rintro⟨p,h1,h2,hl⟩
   exact⟨p,aao.mpr ⟨h1,VE h2⟩,hl⟩
theorem um(ps:List Pt)(f:Str):(hU ps f).Sublist (ps.flatMap (·.iH)):=by
 unfold hU
 have h:=aaN (p:=fun p:Pt=>decide (p.file=some f)) (l:=ps)
 generalize ps.filter _=qs at h
 induction h with
 | slnil=>exact aaw _
 | cons x _ ih=>rw[aaz];exact ih.trans (aaV _ _)
 | cons_cons x _ ih=>rw[aaz,aaz];exact(aaw _).append ih
namespace Inv
variable{D:Dk}
theorem l7{s:Str}{p:Pt}:p∈D.pO s↔p∈D.made∧p.nm∈D.held s:=by
 unfold Dk.pO
 rw[aao,decide_eq_true_iff]
theorem yb(s:Str):(D.pO s).Sublist D.made:=aaN
theorem nodup(I:Inv D)(s f:Str):((hU (D.pO s) f).map (·.nm)).Nodup:=
 ((um _ f).map _).nodup (EN (((yb s).map _).nodup I.nd) fun p hp=>I.GW p (yb s |>.subset hp))
theorem Nt(I:Inv D)(s f:Str):((nL (D.pO s) f).map (·.nm)).Nodup:=((lF _ f).map _).nodup (I.nodup s f)
theorem closed(I:Inv D){s:Str}(hs:s∈D.stores)(f:Str):pZ (hU (D.pO s) f):=by
 have key:∀l∈hU (D.pO s) f,∀m,l.up=some m∨l.lo=some m→m∈(hU (D.pO s) f).map (·.nm):=fun l hl m hm=>by
   obtain⟨p,hp,hf,hl⟩:=lG.mp hl
   obtain⟨hp,hh⟩:=l7.mp hp
   obtain⟨q,hq,e,VG,hn⟩:=I.refs p hp l hl m hm
   obtain⟨l',Ho,rfl⟩:=aaA.mp VG
   refine aac (lG.mpr ⟨q,l7.mpr ⟨hq,?_⟩,by rw[e];exact hf,Ho⟩)
   rcases hn with hn|hn
   · rw[hn];exact hh
   · exact(I.lS s hs _ hh).2 _ hn
 exact fun l hl=>⟨fun m hm=>key l hl m (.inl hm),fun m hm=>key l hl m (.inr hm)⟩
theorem Qn(I:Inv D)(s f:Str):IV (hU (D.pO s) f):=by
 obtain⟨rk,h⟩:=I.rank
 refine⟨rk,fun l hl=>?_⟩
 obtain⟨p,hp,_,hl⟩:=lG.mp hl
 exact h p (l7.mp hp).1 l hl
theorem yU(I:Inv D)(s f:Str):(D.row s f).Perm (nL (D.pO s) f):=by
 obtain⟨rk,r⟩:=I.Qn s f
 exact EL (rk:=rk) (fun m n z=>r.ah z) (I.Nt s f)
theorem uo(I:Inv D){s f:Str}{l:Ln}(h:l∈D.row s f):∃p∈D.pO s,p.file=some f∧l∈p.iH:=
 lG.mp ((lF _ f).subset ((I.yU s f).subset h))
theorem uq(I:Inv D)(s f:Str):(D.row s f).length≤(D.made.flatMap (·.iH)).length:=by
 rw[(I.yU s f).length_eq]
 refine aab (lF _ f).length_le (aab (um _ f).length_le ?_)
 have h:=yb (D:=D) s
 generalize D.pO s=qs at h
 generalize D.made=ms at h
 clear I
 induction h with
 | slnil=>exact UU _
 | cons x _ ih=>rw[aaz,VJ];omega
 | cons_cons x _ ih=>rw[aaz,aaz,VJ,VJ];omega
open Classical in
theorem chain{lt:Nm→Nm→Prop}{row:List Ln}(hq:ky lt row=[]):row.Pairwise fun a b=>lt a.nm b.nm:=by
 rw[abt]
 intro i j hi hj VH
 by_cases c:ltAt lt row i j
 · obtain⟨a,b,ha,hb,z⟩:=c
   rw[UN hi] at ha
   rw[UN hj] at hb
   cases ha;cases hb
   exact z
 · exfalso
   have:(i,j)∈ky lt row:=by
     unfold ky
     refine aa2.mpr ⟨i,abQ.mpr hi,aaA.mpr ⟨j,aao.mpr ⟨List.mem_range'.mpr ⟨j-(i+1),by omega,by omega⟩,VE c⟩,rfl⟩⟩
   rw[hq] at this
   cases this
theorem keep(I:Inv D){s:Str}{p:Pt}(hs:s∈D.stores)(fresh:p.nm∉D.names)(GW:p.iH.map (·.nm)=(List.range p.iH.length).map fun j=>(p.nm,j))
   (refs:∀l∈p.iH,∀m,l.up=some m∨l.lo=some m→m∈p.iH.map (·.nm)∨∃q∈D.pO s,q.file=p.file∧m∈q.iH.map (·.nm))
   (j2:∀m∈p.j2,∃q∈D.pO s,m∈q.iH.map (·.nm)) (other:∀o,p.other=some o→o∈D.held s)
   (rank:∃rk,(∀q∈D.made,Rk q.iH rk)∧Rk p.iH rk):Inv (D.keep s p):=by
 have sX:∀x∈D.names,x≠p.nm:=fun x hx e=>fresh (e▸hx)
 have Pa:∀q∈D.made,q.nm∈D.names:=fun q hq=>aac hq
 have Pb:∀x,x≠p.nm→(D.keep s p).ir x=D.ir x:=fun x hx=>aak hx
 have Tg:(D.keep s p).ir p.nm=sd D.ir p:=aar rfl
 have VI:∀x∈iN p,x∈D.held s:=fun x hx=>by
   unfold iN at hx
   rcases XW.mp hx with hx|hx
   · obtain⟨m,hm,rfl⟩:=aaA.mp hx
     obtain⟨hm,hn⟩:=aao.mp hm
     have hn:m.1≠p.nm:=aam hn
     have fin:(∃q∈D.pO s,m∈q.iH.map (·.nm))→m.1∈D.held s:=fun⟨q,hq,VG⟩=>by
       obtain⟨h1,h2⟩:=l7.mp hq
       rw[qT (I.GW q h1) VG];exact h2
     rcases XW.mp hm with hm|hm
     · exact fin (j2 m hm)
     · obtain⟨l,hl,hm⟩:=aa2.mp hm
       have Oi:l.up=some m∨l.lo=some m:=by
         rcases XW.mp hm with hm|hm
         · exact .inl (by simpa using hm)
         · exact .inr (by simpa using hm)
       rcases refs l hl m Oi with z|⟨q,hq,_,z⟩
       · exact absurd (qT GW z) hn
       · exact fin ⟨q,hq,z⟩
   · exact other x (by simpa using hx)
 have nh:∀x∈sd D.ir p,x∈D.held s:=fun x hx=>by
   obtain⟨y,hy,hx⟩:=aa2.mp hx
   rcases XY.mp hx with rfl|hx
   · exact VI _ hy
   · exact(I.lS s hs y (VI y hy)).2 x hx
 have nn:∀x∈sd D.ir p,x∈D.names:=fun x hx=>(I.lS s hs x (nh x hx)).1
 have Rq:∀x∈D.names,∀y∈D.ir x,y∈D.names:=fun x hx y hy=>by
   obtain⟨q,hq,rfl⟩:=aaA.mp hx
   obtain⟨i,hi⟩:=aaH.mp hq
   have:=I.before i q hi y hy
   exact(abu i D.made).map _ |>.subset this
 refine⟨?_,fun q hq=>?_,fun q hq l hl m hm=>?_,?_,fun i q hq x hx=>?_,fun x hx y hy z hz=>?_,I.stN,fun t ht x hx=>?_,fun t ht=>?_⟩
 · show((D.made++[p]).map (·.nm)).Nodup
   rw[aaq,aaO]
   exact⟨I.nd,by simp,fun a ha b hb e=>fresh (by simp at hb;rw[←hb,←e];exact ha)⟩
 · rcases XW.mp hq with hq|hq
   · exact I.GW q hq
   · rw[UK.mp hq];exact GW
 · rcases XW.mp hq with hq|hq
   · obtain⟨q',h1,h2,h3,h4⟩:=I.refs q hq l hl m hm
     refine⟨q',aap _ h1,h2,h3,h4.imp id fun z=>?_⟩
     rw[Pb _ (sX _ (Pa q hq))];exact z
   · rw[UK.mp hq] at hl ⊢
     rcases refs l hl m hm with z|⟨q',h1,h2,h3⟩
     · exact⟨p,by show p∈D.made++[p];simp,rfl,z,.inl rfl⟩
     · obtain⟨h4,h5⟩:=l7.mp h1
       refine⟨q',aap _ h4,h2,h3,.inr ?_⟩
       rw[Tg]
       have e:=qT (I.GW q' h4) h3
       refine aa2.mpr ⟨q'.nm,?_,aal⟩
       unfold iN
       refine aap _ (aaA.mpr ⟨m,aao.mpr ⟨?_,VE ?_⟩,e⟩)
       · unfold named
         refine aaD _ (aa2.mpr ⟨l,hl,?_⟩)
         rcases hm with hm|hm
         · exact aap _ (by rw[hm];simp)
         · exact aaD _ (by rw[hm];simp)
       · rw[e];exact sX _ (Pa q' h4)
 · obtain⟨rk,h1,h2⟩:=rank
   refine⟨rk,fun q hq=>?_⟩
   rcases XW.mp hq with hq|hq
   · exact h1 q hq
   · rw[UK.mp hq];exact h2
 · show x∈((D.made++[p]).take i).map (·.nm)
   have hq:(D.made++[p])[i]?=some q:=hq
   by_cases hi:i<D.made.length
   · rw[abr hi] at hq
     rw[List.take_append_of_le_length (by omega)]
     rw[Pb _ (sX _ (Pa q (UT hq)))] at hx
     exact I.before i q hq x hx
   · have hl:=(Rt.mp hq).1
     rw[VJ] at hl
     have hi:i=D.made.length:=by have:[p].length=1:=rfl;omega
     subst hi
     rw[aa3 (UU _),Nat.sub_self] at hq
     cases hq
     rw[List.take_append_of_le_length (UU _),aai]
     rw[Tg] at hx
     exact nn x hx
 · have hx:x∈(D.made++[p]).map (·.nm):=hx
   rw[aaq] at hx
   rcases XW.mp hx with hx|hx
   · rw[Pb _ (sX x hx)] at hy ⊢
     rw[Pb _ (sX y (Rq x hx y hy))] at hz
     exact I.trans x hx y hy z hz
   · have hx:x=p.nm:=by simpa using hx
     rw[hx,Tg] at hy ⊢
     rw[Pb _ (sX y (nn y hy))] at hz
     obtain⟨w,hw,hy⟩:=aa2.mp hy
     refine aa2.mpr ⟨w,hw,aaf _ ?_⟩
     rcases XY.mp hy with rfl|hy
     · exact hz
     · exact I.trans w (I.lS s hs w (VI w hw)).1 y hy z hz
 · have old:∀u∈D.stores,∀x∈D.held u,x∈(D.keep s p).names∧∀y∈(D.keep s p).ir x,y∈D.held u:=fun u hu x hx=>by
     obtain⟨h1,h2⟩:=I.lS u hu x hx
     refine⟨?_,fun y hy=>?_⟩
     · show x∈(D.made++[p]).map (·.nm)
       rw[aaq];exact aap _ h1
     · rw[Pb _ (sX x h1)] at hy
       exact h2 y hy
   have hx:x∈(if t=s then D.held s++[p.nm] else D.held t):=hx
   show x∈(D.keep s p).names∧∀y∈(D.keep s p).ir x,y∈(if t=s then D.held s++[p.nm] else D.held t)
   by_cases e:t=s
   · rw[aar e] at hx ⊢
     rcases XW.mp hx with hx|hx
     · obtain⟨h1,h2⟩:=old s hs x hx
       exact⟨h1,fun y hy=>aap _ (h2 y hy)⟩
     · have hx:x=p.nm:=by simpa using hx
       rw[hx]
       refine⟨?_,fun y hy=>?_⟩
       · show p.nm∈(D.made++[p]).map (·.nm)
         simp
       · rw[Tg] at hy
         exact aap _ (nh y hy)
   · rw[aak e] at hx ⊢
     exact old t ht x hx
 · show(if t=s then D.held s++[p.nm] else D.held t).Nodup
   by_cases e:t=s
   · rw[aar e,aaO]
     exact⟨I.uk s hs,by simp,fun a ha b hb z=>fresh (by simp at hb;rw[←hb,←z];exact(I.lS s hs a ha).1)⟩
   · rw[aak e];exact I.uk t ht
theorem record(I:Inv D){s f x:Str}(hs:s∈D.stores)(fresh:x∉D.names)(hq:D.xG s f=[])(texts:List Str):Inv (D.keep s (mj x f (D.row s f) texts)):=by
 obtain⟨rk,Oj⟩:=I.rank
 have rise:=r_ ((D.row s f).map (·.tx)) texts
 rw[Ro] at rise
 have Rr:∀t m,mz (D.row s f) (K01.kept ((D.row s f).map (·.tx)) texts) t=some m→∃q∈D.pO s,q.file=some f∧m∈q.iH.map (·.nm):=fun t m h=>by
   obtain⟨q,_,_,l,hl,rfl⟩:=BD h
   obtain⟨p,h1,h2,h3⟩:=I.uo (UT hl)
   exact⟨p,h1,h2,aac h3⟩
 have own:∀q∈D.made,∀m∈q.iH.map (·.nm),m.1≠x:=fun q hq m hm e=>fresh (by rw[←e,qT (I.GW q hq) hm];exact aac hq)
 have ch:(D.row s f).Pairwise fun a b=>rk a.nm<rk b.nm:=by
   have tr:Rk (hU (D.pO s) f) rk:=fun l hl=>by
     obtain⟨p,hp,_,hl⟩:=lG.mp hl
     exact Oj p (l7.mp hp).1 l hl
   exact(chain hq).imp fun z=>tr.ah z
 refine I.keep hs fresh ?_ (fun l hl m hm=>?_) (fun m hm=>?_) (fun o ho=>by cases ho) ⟨EM rk (mz (D.row s f) (K01.kept ((D.row s f).map (·.tx)) texts)) x texts.length,fun q hq=>?_,?_⟩
 · show(kA x texts _).map (·.nm)=(List.range (kA x texts _).length).map fun j=>(x,j)
   unfold kA
   rw[uj,←List.range_eq_range']
 · rcases ya texts 0 0 none l hl m hm with(z|⟨t,z⟩)|z
   · cases z
   · exact .inr (Rr t m z)
   · exact .inl z
 · obtain⟨l,hl,rfl⟩:=aaA.mp hm
   obtain⟨p,h1,_,h3⟩:=I.uo (aao.mp hl).1
   exact⟨p,h1,aac h3⟩
 · refine I_ (Oj q hq) fun l hl=>⟨own q hq _ (aac hl),fun m hm=>?_⟩
   obtain⟨q',h1,_,h3,_⟩:=I.refs q hq l hl m hm
   exact own q' h1 m h3
 · refine IZ (fun a b c d h1 h2 h3=>KY rise ch h1 h2 h3) (fun t m h=>?_) texts
   obtain⟨q,h1,_,h3⟩:=Rr t m h
   exact own q (l7.mp h1).1 m h3
theorem cut(I:Inv D){s f x:Str}(hs:s∈D.stores)(fresh:x∉D.names){ms:List Nm}(hm:∀m∈ms,m∈(D.row s f).map (·.nm)):Inv (D.keep s ⟨x,some f,[],ms,none⟩):=by
 refine I.keep hs fresh rfl (fun l hl=>by cases hl) (fun m h=>?_) (fun o ho=>by cases ho) ?_
 · obtain⟨l,hl,rfl⟩:=aaA.mp (hm m h)
   obtain⟨p,h1,_,h3⟩:=I.uo hl
   exact⟨p,h1,aac h3⟩
 · obtain⟨rk,h⟩:=I.rank
   exact⟨rk,h,fun l hl=>by cases hl⟩
theorem back(I:Inv D){s x o:Str}(hs:s∈D.stores)(fresh:x∉D.names)(ho:o∈D.held s):Inv (D.keep s ⟨x,none,[],[],some o⟩):=by
 refine I.keep hs fresh rfl (fun l hl=>by cases hl) (fun m h=>by cases h) (fun o' h=>by cases h;exact ho) ?_
 obtain⟨rk,h⟩:=I.rank
 exact⟨rk,h,fun l hl=>by cases hl⟩
theorem vE(I:Inv D){x:Str}(hx:x∈D.names):x∉D.ir x:=fun h=>by
 obtain⟨q,hq,rfl⟩:=aaA.mp hx
 obtain⟨i,hi⟩:=aaH.mp hq
 have h1:=I.before i q hi _ h
 rw[List.map_take] at h1
 obtain⟨j,hj⟩:=aaH.mp h1
 have Hn:j<i:=by have:=(Rt.mp hj).1;rw[aav] at this;omega
 rw[abo,aar Hn] at hj
 have e3:(D.made.map (·.nm))[i]?=some q.nm:=by rw[aah,hi];rfl
 have:=(abz (Rt.mp hj).1 I.nd).mp (hj.trans e3.symm)
 omega
theorem yc(I:Inv D){x y:Str}(hx:x∈D.names)(hy:y∈D.ir x):y∈D.names:=by
 obtain⟨q,hq,rfl⟩:=aaA.mp hx
 obtain⟨i,hi⟩:=aaH.mp hq
 exact(abu i D.made).map _ |>.subset (I.before i q hi y hy)
theorem take(I:Inv D){s x:Str}(hs:s∈D.stores)(hx:x∈D.names):Inv (D.take s x):=by
 have cm:∀y∈D.nc s x,(y=x∨y∈D.ir x)∧y∉D.held s:=fun y hy=>by
   obtain⟨h1,h2⟩:=aao.mp hy
   refine⟨?_,aam h2⟩
   rcases XW.mp h1 with h|h
   · exact .inr (aam (aao.mp h).2)
   · exact .inl (by simpa using h)
 have YI:∀y,y=x∨y∈D.ir x→y∈D.held s++D.nc s x:=fun y hy=>by
   by_cases h:y∈D.held s
   · exact aap _ h
   · refine aaD _ (aao.mpr ⟨?_,VE h⟩)
     rcases hy with rfl|hy
     · simp
     · exact aap _ (aao.mpr ⟨I.yc hx hy,VE hy⟩)
 refine⟨I.nd,I.GW,I.refs,I.rank,I.before,I.trans,I.stN,fun t ht z hz=>?_,fun t ht=>?_⟩
 · have hz:z∈(if t=s then D.held s++D.nc s x else D.held t):=hz
   show z∈D.names∧∀y∈D.ir z,y∈(if t=s then D.held s++D.nc s x else D.held t)
   by_cases e:t=s
   · rw[aar e] at hz ⊢
     rcases XW.mp hz with hz|hz
     · obtain⟨h1,h2⟩:=I.lS s hs z hz
       exact⟨h1,fun y hy=>aap _ (h2 y hy)⟩
     · obtain⟨h1,_⟩:=cm z hz
       rcases h1 with rfl|h1
       · exact⟨hx,fun y hy=>YI y (.inr hy)⟩
       · exact⟨I.yc hx h1,fun y hy=>YI y (.inr (I.trans x hx z h1 y hy))⟩
   · rw[aak e] at hz ⊢
     exact I.lS t ht z hz
 · show(if t=s then D.held s++D.nc s x else D.held t).Nodup
   by_cases e:t=s
   · rw[aar e,aaO]
     refine⟨I.uk s hs,?_,fun a ha b hb z=>(cm b hb).2 (z▸ha)⟩
     refine abL aaN ?_
     rw[aaO]
     refine⟨abL aaN I.nd,by simp,fun a ha b hb z=>?_⟩
     rw[UK.mp hb] at z
     subst z
     exact I.vE hx (aam (aao.mp ha).2)
   · rw[aak e];exact I.uk t ht
theorem drop(I:Inv D){s x:Str}(hs:s∈D.stores)(hx:∀z∈D.held s,x∉D.ir z):Inv (D.drop s x):=by
 refine⟨I.nd,I.GW,I.refs,I.rank,I.before,I.trans,I.stN,fun t ht z hz=>?_,fun t ht=>?_⟩
 · have hz:z∈(if t=s then(D.held s).filter (fun y=>y≠x) else D.held t):=hz
   show z∈D.names∧∀y∈D.ir z,y∈(if t=s then(D.held s).filter (fun y=>y≠x) else D.held t)
   by_cases e:t=s
   · rw[aar e] at hz ⊢
     have hz:=(aao.mp hz).1
     obtain⟨h1,h2⟩:=I.lS s hs z hz
     exact⟨h1,fun y hy=>aao.mpr ⟨h2 y hy,VE fun e=>hx z hz (e▸hy)⟩⟩
   · rw[aak e] at hz ⊢
     exact I.lS t ht z hz
 · show(if t=s then(D.held s).filter (fun y=>y≠x) else D.held t).Nodup
   by_cases e:t=s
   · rw[aar e];exact abL aaN (I.uk s hs)
   · rw[aak e];exact I.uk t ht
theorem begin(I:Inv D){s:Str}(hs:s∉D.stores):Inv (D.begin s):=by
 refine⟨I.nd,I.GW,I.refs,I.rank,I.before,I.trans,?_,fun t ht z hz=>?_,fun t ht=>?_⟩
 · show(D.stores++[s]).Nodup
   rw[aaO]
   exact⟨I.stN,by simp,fun a ha b hb e=>hs (by rw[←UK.mp hb,←e];exact ha)⟩
 · have hz:z∈(if t=s then[] else D.held t):=hz
   show z∈D.names∧∀y∈D.ir z,y∈(if t=s then[] else D.held t)
   by_cases e:t=s
   · rw[aar e] at hz;cases hz
   · rw[aak e] at hz ⊢
     rcases XW.mp ht with ht|ht
     · exact I.lS t ht z hz
     · exact absurd (UK.mp ht) e
 · show(if t=s then[] else D.held t).Nodup
   by_cases e:t=s
   · rw[aar e];exact aa6
   · rw[aak e]
     rcases XW.mp ht with ht|ht
     · exact I.uk t ht
     · exact absurd (UK.mp ht) e
theorem vF(I:Inv D){s x:Str}{xs:List Str}(hs:s∈D.stores)(h:D.has s=xs++[x]):∀z∈D.held s,x∉D.ir z:=by
 intro z hz hx
 obtain⟨Th,_⟩:=I.lS s hs z hz
 obtain⟨q,hq,rfl⟩:=aaA.mp Th
 obtain⟨i,hi⟩:=aaH.mp hq
 have h1:=I.before i q hi x hx
 have e:D.names=(D.made.take i).map (·.nm)++q.nm::(D.made.drop (i+1)).map (·.nm):=by
   have zv:=(Rt.mp hi).1
   unfold Dk.names
   conv=>lhs;rw[←aa8 i D.made,aaI zv,(Rt.mp hi).2]
   rw[aaq,aas]
 have hn:=I.nd
 rw[e,aaO,aaK] at hn
 unfold Dk.has at h
 rw[e,aay,XU (p:=fun y=>decide (y∈D.held s)) (VE hz)] at h
 have hl:x∈q.nm::((D.made.drop (i+1)).map (·.nm)).filter fun y=>decide (y∈D.held s):=by
   have h2:=aaW List.getLast? h
   rw[List.getLast?_append,List.getLast?_append] at h2
   have h3:(q.nm::((D.made.drop (i+1)).map (·.nm)).filter fun y=>decide (y∈D.held s)).getLast?=some x:=by
     cases e4:(q.nm::((D.made.drop (i+1)).map (·.nm)).filter fun y=>decide (y∈D.held s)).getLast? with
     | none=>simp at e4
     | some y=>rw[e4] at h2;simpa using h2
   exact List.mem_of_getLast? h3
 have Ho:x∈q.nm::(D.made.drop (i+1)).map (·.nm):=by
   rcases XY.mp hl with z|z
   · rw[z];exact aal
   · exact aaf _ (aao.mp z).1
 exact hn.2.2 x h1 x Ho rfl
end Inv
end PM
namespace PK
open PySem L2
set_option genInjectivity false
set_option genSizeOf false
set_option genSizeOfSpec false
noncomputable def top(i:Nat):Stmt:=PySem.Challenge.pw_patchkin_k12_whole_none_can_be_spared.main.body.getD i (.Pass ⟨0,0,0,0⟩)
noncomputable abbrev oR:Stmt:=top 2
noncomputable abbrev p0:Stmt:=top 3
noncomputable abbrev p5:Stmt:=top 4
noncomputable abbrev EO:Stmt:=top 5
noncomputable abbrev mB:Stmt:=inClass (top 17) 0
noncomputable abbrev lV:Stmt:=inClass (top 18) 0
noncomputable abbrev kJ:Stmt:=top 19
noncomputable abbrev jR:Stmt:=top 20
noncomputable abbrev nM:Stmt:=top 21
noncomputable abbrev qU:Stmt:=top 22
noncomputable abbrev kK:Stmt:=top 23
noncomputable abbrev nN:Stmt:=top 24
noncomputable abbrev lW:Stmt:=top 25
noncomputable abbrev yV:Stmt:=top 26
noncomputable abbrev oq:Stmt:=top 27
noncomputable abbrev p6:Stmt:=top 28
noncomputable abbrev ur:Stmt:=top 29
noncomputable abbrev lX:Stmt:=inClass (top 30) 0
noncomputable abbrev lY:Stmt:=inClass (top 30) 1
noncomputable abbrev kP:Stmt:=inClass (top 30) 2
noncomputable abbrev p8:Stmt:=top 34
noncomputable abbrev nO:Stmt:=top 35
noncomputable abbrev oS:Stmt:=top 36
noncomputable abbrev qV:Stmt:=top 37
noncomputable abbrev jV:Stmt:=top 38
noncomputable abbrev mD:Stmt:=inClass (top 39) 0
noncomputable abbrev p_:Stmt:=inClass (top 39) 1
noncomputable abbrev sL:Stmt:=inClass (top 39) 2
noncomputable abbrev nP:Stmt:=inClass (top 39) 3
noncomputable abbrev qa:Stmt:=inClass (top 39) 4
noncomputable abbrev l8:Stmt:=inClass (top 39) 5
noncomputable abbrev qb:Stmt:=inClass (top 39) 6
noncomputable abbrev qW:Stmt:=inClass (top 39) 7
noncomputable abbrev ou:Stmt:=inClass (top 39) 8
noncomputable abbrev qX:Stmt:=inClass (top 39) 9
noncomputable abbrev ni:Stmt:=inClass (top 39) 10
noncomputable abbrev uu:Stmt:=inClass (top 39) 12
noncomputable abbrev qc:Stmt:=inClass (top 39) 13
noncomputable abbrev mE:Stmt:=inClass (top 39) 14
noncomputable abbrev kj:Stmt:=inClass (top 39) 16
noncomputable abbrev mF:Stmt:=inClass (top 39) 17
noncomputable abbrev k9:Stmt:=inClass (top 39) 18
noncomputable abbrev lH:Stmt:=inClass (top 39) 19
noncomputable abbrev lI:Stmt:=inClass (top 39) 20
noncomputable abbrev lZ:Stmt:=inClass (top 39) 21
noncomputable abbrev qY:Stmt:=inClass (top 39) 22
noncomputable abbrev nQ:Stmt:=top 41
noncomputable abbrev qZ:Stmt:=top 42
noncomputable abbrev q0:Stmt:=top 43
noncomputable abbrev ow:Stmt:=top 44
noncomputable abbrev q8:Stmt:=top 45
noncomputable abbrev ox:Stmt:=top 46
noncomputable abbrev ml:Stmt:=top 47
noncomputable abbrev l0:Stmt:=top 48
noncomputable abbrev oy:Stmt:=top 49
noncomputable abbrev qd:Stmt:=top 50
noncomputable abbrev AV:Stmt:=top 51
noncomputable abbrev xH:List Str:=["self","name","text","upper_name","lower_name"]
theorem vG:gw xH ["self","name","text","upper_name","lower_name"] (fO mB):=mL (by decide+kernel)
noncomputable abbrev vH:List Str:=["self","name","file","puts","cuts","other"]
theorem uv:gw vH ["self","name","file","puts","cuts","other"] (fO lV):=mL (by decide+kernel)
noncomputable abbrev o_:List Str:=["patch","names","line","name"]
theorem kl:gw o_ ["patch"] (fO kJ):=mL (by decide+kernel)
noncomputable abbrev mO:List Str:=["patch","leant","name"]
theorem kB:gw mO ["patch"] (fO jR):=mL (by decide+kernel)
noncomputable abbrev yW:List Str:=["patches","taken_back","live","patch"]
theorem kW:gw yW ["patches"] (fO nM):=mL (by decide+kernel)
noncomputable abbrev Di:List Str:=["patches","file","lines","patch"]
theorem qf:gw Di ["patches","file"] (fO qU):=mL (by decide+kernel)
noncomputable abbrev pb:List Str:=["patches","file","live","gone","patch","name","line"]
theorem ji:gw pb ["patches","file"] (fO kK):=mL (by decide+kernel)
noncomputable abbrev vI:List Str:=["lines","straight","line"]
theorem ko:gw vI ["lines"] (fO lW):=mL (by decide+kernel)
noncomputable abbrev Ja:List Str:=["names","ahead","found","name"]
theorem vJ:gw Ja ["names","ahead"] (fO yV):=mL (by decide+kernel)
noncomputable abbrev wG:List Str:=["lines","straight","ahead","line","climb","name","missing","other"]
theorem jE:gw wG ["lines"] (fO oq):=mL (by decide+kernel)
noncomputable abbrev BH:List Str:=["waiting","name"]
theorem sM:gw BH ["waiting"] (fO p6):=mL (by decide+kernel)
noncomputable abbrev Dj:List Str:=["lines","ahead","by_name","waiting","line","row","name","other"]
theorem lh:gw Dj ["lines","ahead"] (fO ur):=mL (by decide+kernel)
noncomputable abbrev vK:List Str:=["self","patches","file"]
theorem uw:gw vK ["self","patches","file"] (fO lX):=mL (by decide+kernel)
noncomputable abbrev vL:List Str:=["self","first","second"]
theorem ux:gw vL ["self","first","second"] (fO lY):=mL (by decide+kernel)
noncomputable abbrev sD:List Str:=["self","pairs","first","second"]
theorem jF:gw sD ["self"] (fO kP):=mL (by decide+kernel)
noncomputable abbrev BI:List Str:=["name","sign"]
theorem sN:gw BI ["name"] (fO p8):=mL (by decide+kernel)
noncomputable abbrev yX:List Str:=["places","size","least","place"]
theorem kX:gw yX ["places","size"] (fO nO):=mL (by decide+kernel)
noncomputable abbrev Ab:List Str:=["kept_names","size","behind","place"]
theorem nR:gw Ab ["kept_names","size"] (fO oS):=mL (by decide+kernel)
noncomputable abbrev Dl:List Str:=["patch","texts","kept_names","behind","lines","upper_name","place","text"]
theorem jG:gw Dl ["patch","texts","kept_names"] (fO qV):=mL (by decide+kernel)
noncomputable abbrev l4:List Str:=["patch","file","row","texts","kept_names","left","first","second","cuts","line"]
theorem iO:gw l4 ["patch","file","row","texts"] (fO jV):=mL (by decide+kernel)
noncomputable abbrev xI:List Str:=["self"]
theorem vM:gw xI ["self"] (fO mD):=mL (by decide+kernel)
noncomputable abbrev BJ:List Str:=["self","store"]
theorem Ac:gw BJ ["self","store"] (fO p_):=mL (by decide+kernel)
noncomputable abbrev yY:List Str:=["self"]
theorem xJ:gw yY ["self"] (fO nP):=mL (by decide+kernel)
noncomputable abbrev yZ:List Str:=["self","store","name"]
theorem wH:gw yZ ["self","store"] (fO qa):=mL (by decide+kernel)
noncomputable abbrev sO:List Str:=["self","store","patch","file","texts","sight","line"]
theorem nS:gw sO ["self","store","patch","file","texts"] (fO l8):=mL (by decide+kernel)
noncomputable abbrev y0:List Str:=["self","store","patch","file","places","row","place"]
theorem q9:gw y0 ["self","store","patch","file","places"] (fO qb):=mL (by decide+kernel)
noncomputable abbrev Dm:List Str:=["self","store","patch","other"]
theorem BK:gw Dm ["self","store","patch","other"] (fO qW):=mL (by decide+kernel)
noncomputable abbrev wI:List Str:=["self","store","source","patch","wanted","came","name"]
theorem lJ:gw wI ["self","store","source","patch"] (fO ou):=mL (by decide+kernel)
noncomputable abbrev Dq:List Str:=["self","store","patch","name"]
theorem uy:gw Dq ["self","store","patch"] (fO qX):=mL (by decide+kernel)
noncomputable abbrev uA:List Str:=["self","patch","name"]
theorem sP:gw uA ["self","patch"] (fO ni):=mL (by decide+kernel)
noncomputable abbrev y6:List Str:=["self","store","file","line"]
theorem wJ:gw y6 ["self","store","file"] (fO qc):=mL (by decide+kernel)
noncomputable abbrev xK:List Str:=["self","store","file"]
theorem vN:gw xK ["self","store","file"] (fO mE):=mL (by decide+kernel)
noncomputable abbrev oz:List Str:=["self","store","name"]
theorem nU:gw oz ["self","store"] (fO kj):=mL (by decide+kernel)
noncomputable abbrev xM:List Str:=["self","store","file"]
theorem vO:gw xM ["self","store","file"] (fO mF):=mL (by decide+kernel)
noncomputable abbrev tF:List Str:=["self","store"]
theorem sE:gw tF ["self","store"] (fO k9):=mL (by decide+kernel)
noncomputable abbrev uB:List Str:=["self","patch"]
theorem tG:gw uB ["self","patch"] (fO lH):=mL (by decide+kernel)
noncomputable abbrev uC:List Str:=["self","store","patch"]
theorem tH:gw uC ["self","store","patch"] (fO lI):=mL (by decide+kernel)
noncomputable abbrev vP:List Str:=["self","patch","files","name"]
theorem oA:gw vP ["self","patch","files"] (fO lZ):=mL (by decide+kernel)
noncomputable abbrev Ds:List Str:=["self","store","patch","needs","name"]
theorem qg:gw Ds ["self","store","patch"] (fO qY):=mL (by decide+kernel)
noncomputable abbrev y7:List Str:=["script","k"]
theorem xN:gw y7 ["script","k"] (fO nQ):=mL (by decide+kernel)
noncomputable abbrev Dt:List Str:=["cell","k","bound","stir"]
theorem qh:gw Dt ["cell","k","bound"] (fO qZ):=mL (by decide+kernel)
noncomputable abbrev Du:List Str:=["cell","k","signs","size","base","far","found","j"]
theorem jo:gw Du ["cell","k"] (fO q0):=mL (by decide+kernel)
noncomputable abbrev wK:List Str:=["cell","signs","size","j"]
theorem lK:gw wK ["cell"] (fO ow):=mL (by decide+kernel)
noncomputable abbrev Dw:List Str:=["texts","cell","at","line","more","way","out","turned"]
theorem j3:gw Dw ["texts","cell"] (fO q8):=mL (by decide+kernel)
noncomputable abbrev wL:List Str:=["desk","stores","files","cell","name","backs","store","file","way","more","row","source","names","line"]
theorem jq:gw wL ["desk","stores","files","cell","name","backs"] (fO ox):=mL (by decide+kernel)
noncomputable abbrev q_:List Str:=["script","first","most","backs","desk","stores","files","store","k","cell"]
theorem je:gw q_ ["script","first","most","backs"] (fO ml):=mL (by decide+kernel)
noncomputable abbrev vQ:List Str:=["found","due","name"]
theorem oB:gw vQ ["found","due"] (fO l0):=mL (by decide+kernel)
noncomputable abbrev wM:List Str:=["desk","store","files","file"]
theorem uD:gw wM ["desk","store","files"] (fO oy):=mL (by decide+kernel)
noncomputable abbrev BL:List Str:=["desk","store","name"]
theorem Ae:gw BL ["desk","store","name"] (fO qd):=mL (by decide+kernel)
noncomputable abbrev FH:List Str:=["script","built","desk","there","source","drawn","store","came","due","first","left","name","upon","file","one"]
theorem j4:gw FH ["script"] (fO AV):=mL (by decide+kernel)
structure Txt(mg:Str→Option Value):Prop where
 jw:mg "len"=none
 nj:mg "range"=none
 Qo:mg "max"=none
 uE:mg "isinstance"=none
 vR:mg "list"=none
 Qp:mg "str"=none
 y8:mg "reversed"=none
 Qq:mg "sorted"=none
 Ya:mg "set"=none
 Dx:mg "enumerate"=none
 K0:mg "ValueError"=none
structure Ad where
 Af:Addr
 Ag:FuncData
 BM:Addr
 BN:FuncData
 BO:Addr
 BP:FuncData
 Jb:Addr
 Jc:FuncData
 mG:Addr
 qD:FuncData
 l5:Addr
 pd:FuncData
 pe:Addr
 pf:FuncData
 mQ:Addr
 mR:FuncData
 ra:Addr
 rb:FuncData
 wN:Addr
 wO:FuncData
 ph:Addr
 pj:FuncData
 tI:Addr
 tJ:FuncData
 pk:Addr
 pq:FuncData
 Dy:Addr
 Dz:FuncData
 wQ:Addr
 wR:FuncData
 uF:Addr
 uG:FuncData
 DA:Addr
 DB:FuncData
 l6:Addr
 pw:FuncData
 pz:Addr
 pA:FuncData
 mS:Addr
 mT:FuncData
 uH:Addr
 uI:FuncData
 rf:Addr
 rg:FuncData
 sQ:Addr
 sR:FuncData
 wU:Addr
 wV:FuncData
 pB:Addr
 pC:FuncData
 mH:Addr
 qE:FuncData
 uJ:Addr
 uK:FuncData
 Ai:Addr
 Aj:FuncData
 rh:Addr
 rj:FuncData
 y9:Addr
 y_:FuncData
 sS:Addr
 sT:FuncData
 za:Addr
 zb:FuncData
 wW:Addr
 wX:FuncData
 wY:Addr
 wZ:FuncData
 w9:Addr
 w_:FuncData
 uL:Addr
 uM:FuncData
 BQ:Addr
 BR:FuncData
 zc:Addr
 zd:FuncData
 qF:Addr
 qG:FuncData
 oC:Addr
 oE:FuncData
 qH:Addr
 qI:FuncData
 nV:Addr
 nX:FuncData
 oF:Addr
 oG:FuncData
 oH:Addr
 oI:FuncData
 pE:Addr
 pF:FuncData
 xa:Addr
 xb:FuncData
 rl:Addr
 rm:FuncData
 xc:Addr
 xf:FuncData
 xg:Addr
 xh:FuncData
 xi:Addr
 xj:FuncData
 xk:Addr
 xl:FuncData
 xm:Addr
 xn:FuncData
 xo:Addr
 xp:FuncData
 pG:Addr
 pH:FuncData
 xq:Addr
 xr:FuncData
 uN:Addr
 uO:FuncData
 hG:Addr
 hV:Addr
 ic:Addr
 gk:Addr
 jr:Addr
 jj:Addr
 i9:Addr
 iM:Addr
 jy:Addr
 lL:Addr
 jZ:Addr
 qi:Addr
 ie:Addr
 nq:Tok
 lM:Tok
 z:Unit
structure Ok(K:PySem.W.Frag)(mg:Str→Option Value)(A:Ad):Prop where
 rn:DF K mg "counts_with" oR A.Af A.Ag ["text","new","below"]
 tK:DF K mg "most_pairs" p0 A.BM A.BN ["old","new"]
 tL:DF K mg "place_from" p5 A.BO A.BP ["texts","text","start"]
 kept:DF K mg "kept" EO A.Jb A.Jc ["old","new"]
 sU:DM K A.hG "__init__" "Line.__init__" mB A.mG A.qD ["self","name","text","upper_name","lower_name"]
 lN:DM K A.hV "__init__" "Patch.__init__" lV A.l5 A.pd ["self","name","file","puts","cuts","other"]
 rq:DF K mg "lines_named_by" kJ A.pe A.pf ["patch"]
 oJ:DF K mg "leans_straight_on" jR A.mQ A.mR ["patch"]
 uP:DF K mg "live_patches" nM A.ra A.rb ["patches"]
 vS:DF K mg "lines_put" qU A.wN A.wO ["patches","file"]
 rA:DF K mg "standing_lines" kK A.ph A.pj ["patches","file"]
 GX:DF K mg "files_with_lines" nN A.tI A.tJ ["patches"]
 rB:DF K mg "straight_ahead" lW A.pk A.pq ["lines"]
 joined:DF K mg "joined" yV A.Dy A.Dz ["names","ahead"]
 AW:DF K mg "all_ahead" oq A.wQ A.wR ["lines"]
 ze:DF K mg "first_free" p6 A.uF A.uG ["waiting"]
 Jd:DF K mg "row_of" ur A.DA A.DB ["lines","ahead"]
 rC:DM K A.ic "__init__" "Sight.__init__" lX A.l6 A.pw ["self","patches","file"]
 rD:DM K A.ic "is_ahead" "Sight.is_ahead" lY A.pz A.pA ["self","first","second"]
 jH:DM K A.ic "quarrelling" "Sight.quarrelling" kP A.mS A.mT ["self"]
 tM:DF K mg "check_name" p8 A.uH A.uI ["name"]
 uQ:DF K mg "check_places" nO A.rf A.rg ["places","size"]
 xt:DF K mg "kept_behind" oS A.sQ A.sR ["kept_names","size"]
 AX:DF K mg "new_lines" qV A.wU A.wV ["patch","texts","kept_names"]
 rE:DF K mg "changing_patch" jV A.pB A.pC ["patch","file","row","texts"]
 sV:DM K A.gk "__init__" "Desk.__init__" mD A.mH A.qE ["self"]
 tN:DM K A.gk "begin" "Desk.begin" p_ A.uJ A.uK ["self","store"]
 L1:DM K A.gk "stores" "Desk.stores" sL A.Ai A.Aj ["self"]
 qj:DM K A.gk "patches" "Desk.patches" nP A.rh A.rj ["self"]
 kC:DM K A.gk "has" "Desk.has" qa A.y9 A.y_ ["self","store"]
 xu:DM K A.gk "record" "Desk.record" l8 A.sS A.sT ["self","store","patch","file","texts"]
 DC:DM K A.gk "cut" "Desk.cut" qb A.za A.zb ["self","store","patch","file","places"]
 AY:DM K A.gk "back" "Desk.back" qW A.wW A.wX ["self","store","patch","other"]
 se:DM K A.gk "take" "Desk.take" ou A.wY A.wZ ["self","store","source","patch"]
 pI:DM K A.gk "drop" "Desk.drop" qX A.w9 A.w_ ["self","store","patch"]
 qk:DM K A.gk "leans" "Desk.leans" ni A.uL A.uM ["self","patch"]
 Nu:DM K A.gk "files" "Desk.files" uu A.BQ A.BR ["self","store"]
 uR:DM K A.gk "row" "Desk.row" qc A.zc A.zd ["self","store","file"]
 l9:DM K A.gk "quarrels" "Desk.quarrels" mE A.qF A.qG ["self","store","file"]
 qJ:DM K A.gk "patches_of" "Desk.patches_of" kj A.oC A.oE ["self","store"]
 kT:DM K A.gk "sight_of" "Desk.sight_of" mF A.qH A.qI ["self","store","file"]
 iX:DM K A.gk "check_store" "Desk.check_store" k9 A.nV A.nX ["self","store"]
 qK:DM K A.gk "check_made" "Desk.check_made" lH A.oF A.oG ["self","patch"]
 kY:DM K A.gk "check_held" "Desk.check_held" lI A.oH A.oI ["self","store","patch"]
 lO:DM K A.gk "check_new" "Desk.check_new" lZ A.pE A.pF ["self","patch","files"]
 sh:DM K A.gk "keep" "Desk.keep" qY A.xa A.xb ["self","store","patch"]
 js:DF K mg "_law_cell_at" nQ A.rl A.rm ["script","k"]
 AZ:DF K mg "_law_draw" qZ A.xc A.xf ["cell","k","bound"]
 pJ:DF K mg "_law_name" q0 A.xg A.xh ["cell","k"]
 vT:DF K mg "_law_text" ow A.xi A.xj ["cell"]
 A1:DF K mg "_law_edit" q8 A.xk A.xl ["texts","cell"]
 A2:DF K mg "_law_deed" ox A.xm A.xn ["desk","stores","files","cell","name","backs"]
 A3:DF K mg "_law_desk" ml A.xo A.xp ["script","first","most","backs"]
 kD:DF K mg "_law_names_are" l0 A.pG A.pH ["found","due"]
 vU:DF K mg "_law_seen" oy A.xq A.xr ["desk","store","files"]
 zf:DF K mg "_law_leant" qd A.uN A.uO ["desk","store","name"]
 iR:CP K A.hG
 Nv:Mk K A.hG A.mG
 Nw:mg "Line"=some (.ref A.hG)
 hE:jS K A.hG "name"
 jI:jS K A.hG "text"
 iI:jS K A.hG "upper_name"
 iJ:jS K A.hG "lower_name"
 jt:CP K A.hV
 BS:Mk K A.hV A.l5
 BU:mg "Patch"=some (.ref A.hV)
 iZ:jS K A.hV "name"
 kc:jS K A.hV "file"
 jM:jS K A.hV "puts"
 jN:jS K A.hV "cuts"
 i4:jS K A.hV "other"
 j5:CP K A.ic
 K1:Mk K A.ic A.l6
 K2:mg "Sight"=some (.ref A.ic)
 jA:jS K A.ic "ahead"
 ix:jS K A.ic "lines"
 gq:CP K A.gk
 Nx:Mk K A.gk A.mH
 Ny:mg "Desk"=some (.ref A.gk)
 iT:jS K A.gk "made"
 jf:jS K A.gk "needs"
 iB:jS K A.gk "held"
 K3:Exc K mg "PatchError" A.jr
 A4:Exc K mg "BadName" A.jj
 xv:Exc K mg "NameTaken" A.i9
 GY:Exc K mg "NoStore" A.iM
 A5:Exc K mg "NoPatch" A.jy
 Je:Exc K mg "NoLine" A.lL
 DD:Exc K mg "Unsettled" A.jZ
 Jf:Exc K mg "Same" A.qi
 FJ:Exc K mg "Leant" A.ie
 BV:mg "NAME_SIGNS"=some (.str (Str.ofString "abcdefghijklmnopqrstuvwxyz0123456789") A.nq)
 rF:mg "LONGEST_NAME"=some (.int 12 A.lM)
 SU:UO K A.ie
 j6:PySem.W.kitOne K (.ref A.ie) (.ref A.jr)=some true
 kZ:PySem.W.kitOne K (.ref A.ie) (.ref A.jj)=some false
 kq:PySem.W.kitOne K (.ref A.ie) (.ref A.i9)=some false
 k7:PySem.W.kitOne K (.ref A.ie) (.ref A.iM)=some false
 k8:PySem.W.kitOne K (.ref A.ie) (.ref A.jy)=some false
 lP:PySem.W.kitOne K (.ref A.ie) (.ref A.lL)=some false
 kr:PySem.W.kitOne K (.ref A.ie) (.ref A.jZ)=some false
 nr:PySem.W.kitOne K (.ref A.ie) (.ref A.qi)=some false
 l_:PySem.W.kitOne K (.ref A.ie) (.ref A.ie)=some true
 ER:PySem.W.kitOne K (.ref A.ie) (.type "ValueError")=some true
 yd:ED K A.ie A.jr=true
 rG:ED K A.ie A.ie=true
 z:True
open PySem L2 PM
def nk(n:Nm):List Key:=[Sum.inr n.1,Sum.inl (n.2:Int)]
theorem oT{a b:Nm}(h:nk a=nk b):a=b:=by
 unfold nk at h
 injection h with h1 h2
 injection h2 with h2 _
 exact Prod.ext (abU h1) (by have:=Sum.inl.inj h2;omega)
abbrev nT(n:Nm):HO:=.tup ((nk n).map kV)
def lr(H:Hp)(v:V)(n:Nm):Prop:=∃t,v=.ref t∧H t=some (nT n)
def ES(H:Hp)(v:V):Option Nm→Prop
 | none=>v=.jx
 | some n=>lr H v n
def SV(v:V):Option Str→Prop
 | none=>v=.jx
 | some x=>v=.str x
def K4(a b c d:V):List (Str×V):=[("name",a),("text",b),("upper_name",c),("lower_name",d)]
theorem i5{a b c d:V}:(K4 a b c d).lookup ("name":Str)=some a:=by kernel_rfl
theorem zg{a b c d:V}:(K4 a b c d).lookup ("text":Str)=some b:=by kernel_rfl
theorem ET{a b c d:V}:(K4 a b c d).lookup ("upper_name":Str)=some c:=by kernel_rfl
theorem EU{a b c d:V}:(K4 a b c d).lookup ("lower_name":Str)=some d:=by kernel_rfl
def K5(a b c d e:V):List (Str×V):=[("name",a),("file",b),("puts",c),("cuts",d),("other",e)]
theorem rH{a b c d e:V}:(K5 a b c d e).lookup ("name":Str)=some a:=by kernel_rfl
theorem Jg{a b c d e:V}:(K5 a b c d e).lookup ("file":Str)=some b:=by kernel_rfl
theorem DE{a b c d e:V}:(K5 a b c d e).lookup ("puts":Str)=some c:=by kernel_rfl
theorem DG{a b c d e:V}:(K5 a b c d e).lookup ("cuts":Str)=some d:=by kernel_rfl
theorem si{a b c d e:V}:(K5 a b c d e).lookup ("other":Str)=some e:=by kernel_rfl
def mI(A:Ad)(H:Hp)(a:Addr)(l:Ln):Prop:=∃dx vn vu vl,H a=some (.ins A.hG dx (K4 vn (.str l.tx) vu vl))∧lr H vn l.nm∧ES H vu l.up∧ES H vl l.lo
def ql(A:Ad)(H:Hp)(a:Addr)(ls:List Ln):Prop:=∃as:List Addr,H a=some (.lst (as.map V.ref))∧Paired (mI A H) as ls
def zh(H:Hp)(a:Addr)(ns:List Nm):Prop:=∃vs,H a=some (.lst vs)∧Paired (lr H) vs ns
def n5(A:Ad)(H:Hp)(a:Addr)(p:Pt):Prop:=∃dx vf pu cu vo,H a=some (.ins A.hV dx (K5 (.str p.nm) vf (.ref pu) (.ref cu) vo))∧SV vf p.file∧ql A H pu p.iH∧zh H cu p.j2∧SV vo p.other
def xO(A:Ad)(H:Hp)(a:Addr)(ps:List Pt):Prop:=∃as:List Addr,H a=some (.lst (as.map V.ref))∧Paired (n5 A H) as ps
section
variable{A:Ad}{H H':Hp}{a:Addr}
theorem lr.same{v:V}{n:Nm}(x:lr H v n)(s:gg H H'):lr H' v n:=by obtain⟨t,e,h⟩:=x;exact⟨t,e,s _ _ h⟩
theorem ES.same{v:V}{o:Option Nm}(x:ES H v o)(s:gg H H'):ES H' v o:=by
 cases o with
 | none=>exact x
 | some n=>exact lr.same x s
theorem mI.same{l:Ln}(x:mI A H a l)(s:gg H H'):mI A H' a l:=by
 obtain⟨dx,vn,vu,vl,h,h1,h2,h3⟩:=x
 exact⟨dx,vn,vu,vl,s _ _ h,h1.same s,h2.same s,h3.same s⟩
theorem ql.same{ls:List Ln}(x:ql A H a ls)(s:gg H H'):ql A H' a ls:=by
 obtain⟨as,h,p⟩:=x
 exact⟨as,s _ _ h,Paired.kO p fun _ _ z=>z.same s⟩
theorem zh.same{ns:List Nm}(x:zh H a ns)(s:gg H H'):zh H' a ns:=by
 obtain⟨vs,h,p⟩:=x
 exact⟨vs,s _ _ h,Paired.kO p fun _ _ z=>z.same s⟩
theorem n5.same{p:Pt}(x:n5 A H a p)(s:gg H H'):n5 A H' a p:=by
 obtain⟨dx,vf,pu,cu,vo,h,h1,h2,h3,h4⟩:=x
 exact⟨dx,vf,pu,cu,vo,s _ _ h,h1,h2.same s,h3.same s,h4⟩
theorem xO.same{ps:List Pt}(x:xO A H a ps)(s:gg H H'):xO A H' a ps:=by
 obtain⟨as,h,p⟩:=x
 exact⟨as,s _ _ h,Paired.kO p fun _ _ z=>z.same s⟩
end
theorem iC{α β:Type}{F:α→β→Prop}{xs:List α}{ys:List β}(p:Paired F xs ys):∀{i:Nat} {x:α},xs[i]?=some x→∃y,ys[i]?=some y∧F x y:=by
 induction p with
 | nil=>intro i x h;simp at h
 | cons f t ih=>
   intro i x h
   cases i with
   | zero=>simp at h;subst h;exact⟨_,rfl,f⟩
   | succ i=>simpa using ih (by simpa using h)
theorem lj{α β:Type}{F:α→β→Prop}{xs:List α}{ys:List β}(p:Paired F xs ys):∀{i:Nat} {y:β},ys[i]?=some y→∃x,xs[i]?=some x∧F x y:=by
 induction p with
 | nil=>intro i x h;simp at h
 | cons f t ih=>
   intro i x h
   cases i with
   | zero=>simp at h;subst h;exact⟨_,rfl,f⟩
   | succ i=>simpa using ih (by simpa using h)
theorem tO{α β:Type}{F:α→β→Prop}{xs zs:List α}{ys ws:List β}(p:Paired F xs ys)(q:Paired F zs ws):Paired F (xs++zs) (ys++ws):=by
 induction p with
 | nil=>exact q
 | cons f t ih=>exact .cons f ih
theorem iG{α β:Type}{F:α→β→Prop}{xs:List α}{ys:List β}{x:α}{y:β}(p:Paired F xs ys)(h:F x y):Paired F (xs++[x]) (ys++[y]):=tO p (.cons h .nil)
theorem zi{α β:Type}{F:α→β→Prop}{xs:List α}{ys:List β}(p:Paired F xs ys):Paired F xs.reverse ys.reverse:=by
 induction p with
 | nil=>exact .nil
 | cons f t ih=>rw[List.reverse_cons,List.reverse_cons];exact iG ih f
theorem j7{as:List Addr}{i:Nat}{v:V}(h:(as.map V.ref)[i]?=some v):∃b,as[i]?=some b∧v=.ref b:=by
 rw[aah] at h
 obtain⟨b,e,rfl⟩:=aaC.mp h
 exact⟨b,e,rfl⟩
theorem SV.eq{v:V}{o:Option Str}(h:SV v o)(f:Str):decide (v=.str f)=decide (o=some f):=by
 cases o with
 | none=>rw[show v=.jx from h,aaa (fun z=>by cases z),aaa (fun z=>by cases z)]
 | some x=>
   rw[show v=.str x from h]
   by_cases e:x=f
   · subst e;rw[VE rfl,VE rfl]
   · rw[aaa (fun z=>e (V.str.inj z)),aaa (fun z=>e (aau z))]
theorem L3{α:Type}{xs:List α}{x:α}{i:Nat}(h:xs.length≤i:=by assumption):(xs++[x]).length≤i+1:=by rw[VJ];exact Nat.succ_le_succ h
def tX(n:Nat):Prop:=n≤4000
theorem tX.sz{n:Nat}(h:tX n):n≤sizeLine:=aab h (by decide)
section
variable{P:Program}{w:World}{K:PySem.W.Frag}{mg:Str→Option Value}{base:Heap}{A:Ad}
def Nz(A:Ad):Sp:=fun vs H Q _=>∃(a:Addr)(ps:List Pt),vs=[.ref a]∧xO A H a ps∧tX ps.length∧∀p H',gg H H'→H p=none→xO A H' p (live ps)→Q (.ref p) H'
def Tb(kvs:List (Key×V))(t:List Str):Prop:=∀x,(iS kvs (Sum.inr x)).isSome=decide (x∈t)
theorem Tb.put{kvs:List (Key×V)}{t:List Str}(h:Tb kvs t)(y:Str)(v:V):Tb (putK kvs (Sum.inr y) v) (y::t):=fun x=>by
 rw[j8]
 by_cases e:x=y
 · subst e;rw[aar rfl,VE aal];rfl
 · rw[aak (fun z=>e (abU z)),h x]
   by_cases m:x∈t
   · rw[VE m,VE (aaf _ m)]
   · rw[aaa m,aaa (fun z=>(XY.mp z).elim e m)]
theorem EV(p:Pt)(r:List Pt)(t:List Str):qC (p::r) t=if p.nm∈t then qC r t else p::qC r (match p.other with|some o=>o::t|none=>t):=rfl
theorem xP(T:Txt mg)(O:Ok K mg A):iw P w K mg base m_ 1 A.ra A.rb ["patches"] (Nz A):=by
 refine O.uP.f.ok kW (fun vs H Q E h=>?_) (fun jL A0 outer s H vs Q E hr h=>?_)
 · obtain⟨a,ps,rfl,_⟩:=h
   rfl
 · obtain⟨a,ps,rfl,⟨as,ha,pa⟩,jK,q⟩:=h
   have hlen:=Paired.length pa
   refine⟨_,(c_ (gs (i:=1) kW.nd rfl (Or.inl rfl) nF)
     (c_ (gs (i:=2) kW.nd rfl (Or.inl rfl) (iQ d_))
     (c_ (iL PassesOwn.never rfl (KI rfl T.y8 (a_ (pv 0) d_)) (gr (i:=3) kW.nd rfl (Or.inl rfl)) (e_ (iF (jn (lg (by exact il hr) (gz (pv 3) rfl) (pv 1))) (c_ (hZ (qA aaJ aaS aaT kG (pv 2) (a_ (pv 3) d_)))
     (e_ (iF (jn (pQ (gz (pv 3) rfl))) (e_ (jB (by exact il hr) (pv 1) (gz (pv 3) rfl) kS rfl)) ib))) ib)))
     (e_ (h_ (EE rfl (by rfl) T.vR (by rfl) T.y8 (a_ (pv 2) d_))))))),?_⟩
   refine L0 ?_;intro _ _ _
   intro t ht
   have s1:gg H (upd H t (.dK [])):=(gg.refl H).new ht
   refine⟨L2.jK,fun l hl=>?_⟩
   have s2:gg H (upd (upd H t (.dK [])) l (.lst [])):=s1.new hl
   have Ol:t≠l:=fun z=>by rw[z] at hl;rw[b_] at hl;cases hl
   refine⟨_,rfl,a,_,rfl,g_.of (s2 a _ ha),KJ (K:=K) (a:=a) (xs:=as.map V.ref) (fun i σ H2=>∃(v:Option V)(kvs:List (Key×V))(tb:List Str)(ls:List Addr)(lp:List Pt),σ=[some (.ref a),some (.ref t),some (.ref l),v]∧gg H H2∧H2 t=some (.dK kvs)∧Tb kvs tb∧kvs.length≤i∧H2 l=some (.lst (ls.map V.ref))∧ls.length≤i∧Paired (n5 A H) ls lp∧lp++qC (ps.reverse.drop i) tb=qC ps.reverse [])
     ⟨none,[],[],[],[],rfl,s2,by rw[de Ol];exact b_,(fun x=>rfl),UU _,b_,UU _,.nil,rfl⟩ (fun i σ H2 _ ⟨_,_,_,_,_,_,s3,_⟩=>g_.of (s3 a _ ha)) ?_ ?_⟩
   · rintro i v σ H2 hx ⟨v0,kvs,tb,ls,lp,rfl,s3,h1,h2,h3,h4,h5,h6,h7⟩
     rw[←List.map_reverse] at hx
     obtain⟨b,hb,rfl⟩:=j7 hx
     obtain⟨p,hp,dx,vf,pu,cu,vo,g1,g2,g3,g4,g5⟩:=iC (zi pa) hb
     have hi:i<ps.reverse.length:=(Rt.mp hp).1
     have zv:i<4000:=by rw[aa7] at hi;exact aax hi jK
     have hd:ps.reverse.drop i=p::ps.reverse.drop (i+1):=by rw[aaI hi];congr 1;exact(Rt.mp hp).2
     rw[hd] at h7
     refine⟨_,rfl,b,A.hV,dx,_,_,rfl,s3 _ _ g1,O.jt,O.iZ,rH,_,rfl,t,_,rfl,jb.k (k:=Sum.inr p.nm) h1,_,rfl,?_⟩
     rw[h2 p.nm]
     rw[EV] at h7
     by_cases hm:p.nm∈tb
     · rw[aar hm] at h7
       rw[VE hm]
       exact jU ⟨_,kvs,tb,ls,lp,rfl,s3,h1,h2,by omega,h4,by omega,h6,h7⟩
     · rw[aak hm] at h7
       rw[aaa hm]
       refine lU ?_
       refine⟨_,rfl,.inl ⟨rfl,_,g_.of h4⟩,_,rfl,l,_,_,rfl,rfl,h4,by rw[Ro];exact aba h5 (Nat.lt_trans zv (by decide)),?_⟩
       have VL:H l=none:=s1.free hl
       have s4:gg H (upd H2 l (.lst (ls.map V.ref++[V.ref b]))):=s3.upd VL
       have Lv:upd H2 l (.lst (ls.map V.ref++[V.ref b])) t=some (.dK kvs):=by rw[de Ol];exact h1
       have e4:upd H2 l (.lst (ls.map V.ref++[V.ref b])) l=some (.lst ((ls++[b]).map V.ref)):=by rw[b_,aaq];rfl
       have pp:Paired (n5 A H) (ls++[b]) (lp++[p]):=iG h6 ⟨dx,vf,pu,cu,vo,g1,g2,g3,g4,g5⟩
       have YJ:(ls++[b]).length≤i+1:=L3
       refine⟨_,rfl,b,A.hV,dx,_,_,rfl,s4 _ _ g1,O.jt,O.i4,si,_,rfl,?_⟩
       cases ho:p.other with
       | none=>
         rw[ho] at g5 h7
         rw[show vo=V.jx from g5]
         exact⟨_,kvs,tb,_,_,rfl,s4,Lv,h2,by omega,e4,YJ,pp,by rw[aaM];exact h7⟩
       | some x=>
         rw[ho] at g5 h7
         rw[show vo=V.str x from g5] at g1 ⊢
         refine⟨_,rfl,_,rfl,b,A.hV,dx,_,_,rfl,s4 _ _ g1,O.jt,O.i4,si,t,_,rfl,mY.k (k:=Sum.inr x) Lv (aba h3 (Nat.lt_trans zv (by decide))),?_⟩
         have Om:=jv kvs (Sum.inr x:Key) (V.bl true)
         have htH:H t=none:=ht
         exact⟨_,_,x::tb,_,_,rfl,s4.upd htH,b_,h2.put x _,by omega,by rw[de Ol.symm];exact e4,YJ,pp,by rw[aaM];exact h7⟩
   · rintro σ H2 ⟨v0,kvs,tb,ls,lp,rfl,s3,h1,h2,h3,h4,h5,h6,h7⟩
     rw[Ro] at h3 h5 h7
     rw[hlen,←aa7,abT] at h7
     have h7:lp=qC ps.reverse []:=by rw[show qC [] tb=[] from rfl,aaF] at h7;exact h7
     refine⟨_,rfl,l,_,rfl,g_.of h4,fun p hp=>?_⟩
     have s4:=s3.new (o:=.lst (ls.map V.ref).reverse) hp
     refine q p _ s4 (s3.free hp) ⟨ls.reverse,by rw[b_,List.map_reverse],?_⟩
     unfold live
     rw[←h7]
     exact Paired.kO (zi h6) fun _ _ z=>z.same s4
end
theorem rJ{α β:Type}{f:α→List β}{ps qs:List α}(h:ps.Sublist qs):(ps.flatMap f).Sublist (qs.flatMap f):=by
 induction h with
 | slnil=>exact aaw _
 | cons x _ ih=>rw[aaz];exact ih.trans (aaV _ _)
 | cons_cons x _ ih=>rw[aaz,aaz];exact(aaw _).append ih
structure Small(ps:List Pt):Prop where
 many:tX ps.length
 iH:tX (ps.flatMap (·.iH)).length
 j2:tX (ps.flatMap (·.j2)).length
theorem Small.sub{ps qs:List Pt}(h:ps.Sublist qs)(s:Small qs):Small ps:=⟨aab h.length_le s.many,aab (rJ h).length_le s.iH,aab (rJ h).length_le s.j2⟩
theorem qm(ps:List Pt)(f:Str):(hU ps f).length≤(ps.flatMap (·.iH)).length:=(rJ aaN).length_le
theorem Ak(ps:List Pt)(p:Pt)(f:Str):hU (ps++[p]) f=hU ps f++if p.file=some f then p.iH else[]:=by
 unfold hU
 rw[aay,abl]
 by_cases h:p.file=some f
 · rw[aar h,XU (by simpa using h),aaL,aaz,abh,aaF]
 · rw[aak h,X_ (by simpa using h),aaL,abh]
theorem take_snoc{α:Type}{xs:List α}{i:Nat}{x:α}(h:xs[i]?=some x):xs.take (i+1)=xs.take i++[x]:=by rw[List.take_add_one,h];rfl
def O2(kvs:List (List Key×V))(ns:List Nm):Prop:=∀n,(iS kvs (nk n)).isSome=decide (n∈ns)
theorem O2.put{kvs:List (List Key×V)}{ns:List Nm}(h:O2 kvs ns)(y:Nm)(v:V):O2 (putK kvs (nk y) v) (ns++[y]):=fun x=>by
 rw[j8]
 by_cases e:x=y
 · subst e;rw[aar rfl,VE (by simp)];rfl
 · rw[aak (fun z=>e (oT z)),h x]
   by_cases m:x∈ns
   · rw[VE m,VE (aap _ m)]
   · rw[aaa m,aaa (fun z=>(XW.mp z).elim m fun z=>e (UK.mp z))]
section
variable{P:Program}{w:World}{K:PySem.W.Frag}{mg:Str→Option Value}{base:Heap}{A:Ad}
def Qr(A:Ad):Sp:=fun vs H Q _=>∃(a:Addr)(ps:List Pt)(f:Str),vs=[.ref a,.str f]∧xO A H a ps∧Small ps∧∀p H',gg H H'→H p=none→ql A H' p (hU ps f)→Q (.ref p) H'
theorem uS(T:Txt mg)(O:Ok K mg A):iw P w K mg base m_ 1 A.wN A.wO ["patches","file"] (Qr A):=by
 refine O.vS.f.ok qf (fun vs H Q E h=>?_) (fun jL A0 outer s H vs Q E hr h=>?_)
 · obtain⟨a,ps,f,rfl,_⟩:=h
   rfl
 · obtain⟨a,ps,f,rfl,⟨as,ha,pa⟩,sm,q⟩:=h
   have hlen:=Paired.length pa
   refine⟨_,(c_ (gs (i:=2) qf.nd rfl (Or.inl rfl) (iQ d_))
     (c_ (iL PassesOwn.never rfl (iq (pv 0)) (gr (i:=3) qf.nd rfl (Or.inl rfl)) (e_ (iF (ij me (gz (pv 3) rfl) (pv 1) (iD _)) (e_ (hZ (qA aaJ PySem.F.slot_list_extend PySem.F.type_list_extend AH (pv 2) (a_ (gz (pv 3) rfl) d_)))) ib)))
     (e_ (h_ (pv 2))))),?_⟩
   refine Fz ?_;intro _ _
   refine⟨L2.jK,fun l hl=>?_⟩
   have s1:gg H (upd H l (.lst [])):=(gg.refl H).new hl
   refine⟨_,rfl,a,rfl,⟨_,g_.of (s1 a _ ha)⟩,i0 (K:=K) (a:=a) (xs:=as.map V.ref) (fun i σ H2=>∃(v:Option V)(ls:List Addr),σ=[some (.ref a),some (.str f),some (.ref l),v]∧gg H H2∧H2 l=some (.lst (ls.map V.ref))∧Paired (mI A H) ls (hU (ps.take i) f))
     ⟨none,[],rfl,s1,b_,.nil⟩ (fun i σ H2 _ ⟨_,_,_,s3,_⟩=>g_.of (s3 a _ ha)) ?_ ?_⟩
   · rintro i v σ H2 hx ⟨v0,ls,rfl,s3,h4,h6⟩
     obtain⟨b,hb,rfl⟩:=j7 hx
     obtain⟨p,hp,dx,vf,pu,cu,vo,g1,g2,⟨as2,g3,Ru⟩,g4,g5⟩:=iC pa hb
     have e:hU (ps.take (i+1)) f=hU (ps.take i) f++if p.file=some f then p.iH else[]:=by rw[take_snoc hp,Ak]
     refine⟨_,rfl,b,A.hV,dx,_,_,rfl,s3 _ _ g1,O.jt,O.kc,Jg,_,rfl,?_⟩
     have hf:MN vf (V.str f)=true:=by
       cases hq:p.file with
       | none=>rw[hq] at g2;rw[show vf=V.jx from g2];rfl
       | some x=>rw[hq] at g2;rw[show vf=V.str x from g2];rfl
     refine⟨hf,_,rfl,?_⟩
     rw[g2.eq f]
     by_cases hm:p.file=some f
     · rw[aar hm] at e
       rw[VE hm]
       refine lU ?_
       refine⟨_,rfl,.inl ⟨rfl,_,g_.of h4⟩,_,rfl,b,A.hV,dx,_,_,rfl,s3 _ _ g1,O.jt,O.jM,DE,l,pu,_,_,rfl,rfl,h4,s3 _ _ g3,?_,?_⟩
       · rw[Ro,Ro,Paired.length h6,Paired.length Ru,←VJ,←e]
         exact aab (qm _ f) (Small.sub (abu _ _) sm).iH.sz
       · refine⟨_,ls++as2,rfl,s3.upd hl,by rw[b_,aaq],?_⟩
         rw[e]
         exact tO h6 Ru
     · rw[aak hm,aaF] at e
       rw[aaa hm]
       exact jU ⟨_,ls,rfl,s3,h4,by rw[e];exact h6⟩
   · rintro σ H2 ⟨v0,ls,rfl,s3,h4,h6⟩
     rw[Ro,hlen,aai] at h6
     exact⟨_,rfl,q l _ s3 hl ⟨ls,h4,Paired.kO h6 fun _ _ z=>z.same s3⟩⟩
theorem GZ(ps:List Pt)(p:Pt):gone (ps++[p])=gone ps++p.j2:=by
 unfold gone
 rw[abl,aaz,abh,aaF]
def K6(A:Ad):Sp:=fun vs H Q _=>∃(a:Addr)(ps:List Pt)(f:Str),vs=[.ref a,.str f]∧xO A H a ps∧Small ps∧∀p H',gg H H'→H p=none→ql A H' p (nL ps f)→Q (.ref p) H'
theorem uT(T:Txt mg)(O:Ok K mg A):iw P w K mg base m_ 2 A.ph A.pj ["patches","file"] (K6 A):=by
 have zw:=xP (P:=P) (w:=w) (base:=base) T O
 have rS:=uS (P:=P) (w:=w) (base:=base) T O
 refine O.rA.f.ok ji (fun vs H Q E h=>?_) (fun jL A0 outer s H vs Q E hr h=>?_)
 · obtain⟨a,ps,f,rfl,_⟩:=h
   rfl
 · obtain⟨a,ps,f,rfl,pa,sm,q⟩:=h
   refine⟨_,(c_ (gs (i:=2) ji.nd rfl (Or.inl rfl) (pN O.uP zw hr (a_ (pv 0) d_)))
     (c_ (gs (i:=3) ji.nd rfl (Or.inr rfl) mf)
     (c_ (iL PassesOwn.never rfl (iq (pv 2)) (gr (i:=4) ji.nd rfl (Or.inl rfl)) (e_ (iL PassesOwn.never rfl (iq (gz (pv 4) rfl)) (gr (i:=5) ji.nd rfl (Or.inl rfl)) (e_ (jB (by exact il hr) (pv 3) (pv 5) kS rfl)))))
     (e_ (h_ (yC pb (fO kK).names [6] rfl (iq (pN O.vS rS hr (a_ (pv 2) (a_ (pv 1) d_)))) rfl (by decide+kernel) (fun _ _ _ _=>(gr (i:=6) ji.nd rfl (Or.inl rfl))) (fun _ _ _ _=>⟨_,nG (jn (lg (by exact il hr) (gz (pv 6) rfl) (pv 3))),by(try simp only [iu]);rfl⟩) (fun _ _ _ _=>⟨_,(pv 6),by(try simp only [iu]);rfl⟩))))))),?_⟩
   refine L0 ?_;intro _ _ _
   refine⟨_,rfl,a,ps,rfl,pa,sm.many,fun l H1 s1 Pc Mh=>?_⟩
   have VM:Small (live ps):=sm.sub (Df ps)
   obtain⟨as,ha,pl⟩:=id Mh
   have hlen:=Paired.length pl
   intro g hg
   have s2:gg H1 (upd H1 g (.dT [])):=(gg.refl H1).new hg
   refine⟨_,rfl,l,rfl,⟨_,g_.of (s2 l _ ha)⟩,i0 (K:=K) (a:=l) (xs:=as.map V.ref) (fun i σ H2=>∃(v4 v5:Option V)(kvs:List (List Key×V)),σ=[some (.ref a),some (.str f),some (.ref l),some (.ref g),v4,v5,none]∧gg H1 H2∧H2 g=some (.dT kvs)∧O2 kvs (gone ((live ps).take i))∧kvs.length≤(gone ((live ps).take i)).length)
     ⟨none,none,[],rfl,s2,b_,(fun x=>rfl),UU _⟩ (fun i σ H2 _ ⟨_,_,_,_,s3,_⟩=>g_.of (s3 l _ ha)) ?_ ?_⟩
   · rintro i v σ H2 hx ⟨v4,v5,kvs,rfl,s3,h1,h2,h3⟩
     obtain⟨b,hb,rfl⟩:=j7 hx
     obtain⟨p,hp,dx,vf,pu,cu,vo,g1,g2,g3,⟨cs,g4,Pd⟩,g5⟩:=iC pl hb
     have e:gone ((live ps).take (i+1))=gone ((live ps).take i)++p.j2:=by rw[take_snoc hp,GZ]
     have hsz:(gone ((live ps).take i)++p.j2).length≤4000:=by rw[←e];exact(VM.sub (abu _ _)).j2
     rw[VJ] at hsz
     have Mi:=Paired.length Pd
     refine⟨_,rfl,b,A.hV,dx,_,_,rfl,s3 _ _ g1,O.jt,O.jN,DG,cu,rfl,⟨_,g_.of (s3 _ _ g4)⟩,i0 (K:=K) (a:=cu) (xs:=cs) (fun j σ H3=>∃(v5:Option V)(kvs:List (List Key×V)),σ=[some (.ref a),some (.str f),some (.ref l),some (.ref g),some (.ref b),v5,none]∧gg H1 H3∧H3 g=some (.dT kvs)∧O2 kvs (gone ((live ps).take i)++p.j2.take j)∧kvs.length≤(gone ((live ps).take i)).length+j)
       ⟨v5,kvs,rfl,s3,h1,by rw[aa9,aaF];exact h2,by omega⟩ (fun j σ H3 _ ⟨_,_,_,s4,_⟩=>g_.of (s4 cu _ g4)) ?_ ?_⟩
     · rintro j v σ H3 hx ⟨v5,kvs,rfl,s4,h1,h2,h3⟩
       obtain⟨n,hn,t,rfl,ht⟩:=iC Pd hx
       have hj:j<cs.length:=(Rt.mp hx).1
       refine⟨_,rfl,_,rfl,g,_,rfl,mY.t (k:=nk n) h1 (s4 _ _ ht) (aba (m:=4000) (by omega) (by decide)),?_⟩
       have Om:=jv kvs (nk n) (V.bl true)
       refine⟨_,_,rfl,s4.upd hg,b_,?_,by omega⟩
       rw[take_snoc hn,←aaM]
       exact h2.put n _
     · rintro σ H3 ⟨v5,kvs,rfl,s4,h1,h2,h3⟩
       rw[Mi,aai] at h2
       rw[Mi] at h3
       exact⟨_,v5,kvs,rfl,s4,h1,by rw[e];exact h2,by rw[e,VJ];exact h3⟩
   · rintro σ H2 ⟨v4,v5,kvs,rfl,s3,h1,h2,h3⟩
     rw[Ro,hlen,aai] at h2
     refine⟨_,rfl,_,rfl,l,live ps,f,rfl,Mh.same s3,VM,fun p H3 s4 rV ⟨VN,YK,YL⟩=>?_⟩
     have YM:VN.length=(hU (live ps) f).length:=Paired.length YL
     have hbound:VN.length≤4000:=by rw[YM];exact aab (qm _ _) VM.iH
     refine⟨p,rfl,⟨_,g_.of YK⟩,jP (K:=K) (a:=p) (xs:=VN.map V.ref) (by rw[Ro];exact aab hbound (by decide)) (fun i ys σ H4=>∃(v6:Option V)(ls:List Addr),σ=[some (.ref a),some (.str f),some (.ref l),some (.ref g),v4,v5,v6]∧H4=H3∧ys=ls.map V.ref∧ls.length≤i∧Paired (mI A H3) ls (((hU (live ps) f).take i).filter fun l=>l.nm∉gone (live ps)))
       ⟨none,[],rfl,rfl,rfl,UU _,.nil⟩ (fun i ys σ H4 _ ⟨_,ls,_,e,e2,e3,_⟩=>by subst e e2;exact⟨g_.of YK,by rw[Ro];exact e3⟩) ?_ ?_⟩
     · rintro i v ys σ H4 hx ⟨v6,ls,rfl,rfl,rfl,e3,h6⟩
       obtain⟨b,hb,rfl⟩:=j7 hx
       obtain⟨ln,xU,dx,vn,vu,vl,k1,⟨t,rfl,k2⟩,k3,k4⟩:=iC YL hb
       refine⟨_,rfl,b,A.hG,dx,_,_,rfl,k1,O.iR,O.hE,i5,_,rfl,g,_,rfl,jb.t (k:=nk ln.nm) (s4 _ _ h1) k2,_,rfl,?_⟩
       rw[h2 ln.nm,take_snoc xU,aay]
       by_cases hm:ln.nm∈gone (live ps)
       · rw[VE hm]
         refine jU ⟨_,ls,rfl,rfl,rfl,by omega,?_⟩
         rw[X_ (by simpa using hm),aaL,aaF]
         exact h6
       · rw[aaa hm]
         refine lU ⟨_,rfl,_,ls++[b],rfl,rfl,by rw[aaq];rfl,L3,?_⟩
         rw[XU (by simpa using hm),aaL]
         exact iG h6 ⟨dx,.ref t,vu,vl,k1,⟨t,rfl,k2⟩,k3,k4⟩
     · rintro ys σ H4 ⟨v6,ls,rfl,rfl,rfl,e3,h6⟩ p2 zZ
       rw[Ro,YM,aai] at h6
       have s5:=((s1.trans s3).trans s4).new (o:=.lst (ls.map V.ref)) zZ
       refine q p2 _ s5 (((s1.trans s3).trans s4).free zZ) ⟨ls,b_,?_⟩
       exact Paired.kO h6 fun _ _ z=>z.same ((gg.refl H4).new zZ)
end
theorem pK{κ:Type}[DecidableEq κ](kvs:List (κ×V))(k:κ)(v:V):(putK kvs k v).map (·.1)=if k∈kvs.map (·.1) then kvs.map (·.1) else kvs.map (·.1)++[k]:=by
 unfold putK
 by_cases h:k∈kvs.map (·.1)
 · have h':(kvs.any fun kv=>decide (kv.1=k))=true:=by
     obtain⟨p,hp,e⟩:=aaA.mp h
     exact List.any_eq_true.mpr ⟨p,hp,VE e⟩
   rw[aar h',aar h,List.map_map]
   refine abA fun p _=>?_
   show(if p.1=k then(p.1,v) else p).1=p.1
   split<;>rfl
 · have h':¬(kvs.any fun kv=>decide (kv.1=k))=true:=fun z=>by
     obtain⟨p,hp,e⟩:=List.any_eq_true.mp z
     exact h (aaA.mpr ⟨p,hp,aam e⟩)
   rw[aak h',aak h,aaq]
   rfl
theorem sj{κ:Type}[DecidableEq κ]{kvs:List (κ×V)}{k:κ}:(iS kvs k).isSome=true↔k∈kvs.map (·.1):=by
 induction kvs with
 | nil=>exact⟨(fun z=>by cases z),(fun z=>by cases z)⟩
 | cons p r ih=>
   by_cases e:p.1=k
   · rw[jm e,aas,e];exact⟨fun _=>aal,fun _=>rfl⟩
   · rw[jg e,ih,aas]
     exact⟨fun m=>aaf _ m,fun z=>(XY.mp z).elim (fun z=>absurd z.symm e) id⟩
theorem DH{κ:Type}[DecidableEq κ]{kvs:List (κ×V)}{k:κ}(h:k∉kvs.map (·.1)):iS kvs k=none:=by
 cases e:iS kvs k with
 | none=>rfl
 | some v=>exact absurd (sj.mp (by rw[e];rfl)) h
theorem rK{n:Nm}{l:List Nm}:nk n∈l.map nk↔n∈l:=by
 constructor
 · intro h
   obtain⟨m,hm,e⟩:=aaA.mp h
   rw[←oT e];exact hm
 · exact fun h=>aac h
def Al(H:Hp)(a:Addr)(l:List Nm):Prop:=∃dk,H a=some (.dT dk)∧dk.map (·.1)=l.map nk
def n6(l:List Nm)(m:Nm):List Nm:=if m∈l then l else l++[m]
theorem rL{l:List Nm}{m x:Nm}:x∈n6 l m↔x∈l∨x=m:=by
 unfold n6
 split
 · rename_i h
   exact⟨.inl,fun z=>z.elim id fun z=>z▸h⟩
 · simp
theorem ye{l:List Nm}{m:Nm}(h:l.Nodup):(n6 l m).Nodup:=by
 unfold n6
 split
 · exact h
 · rename_i hm
   rw[aaO]
   exact⟨h,by simp,fun a ha b hb z=>hm (by rw[UK.mp hb] at z;exact z▸ha)⟩
theorem DI{l:List Nm}{m:Nm}:(n6 l m).length≤l.length+1:=by
 unfold n6
 split
 · omega
 · rw[VJ];exact UU _
theorem uU{dk:List (List Key×V)}{l:List Nm}(h:dk.map (·.1)=l.map nk)(m:Nm)(v:V):(putK dk (nk m) v).map (·.1)=(n6 l m).map nk:=by
 rw[pK,h]
 unfold n6
 by_cases e:m∈l
 · rw[aar (rK.mpr e),aar e]
 · rw[aak (fun z=>e (rK.mp z)),aak e,aaq];rfl
def zk(ns:List Nm)(ds:List Addr):List (List Key×V):=List.zipWith (fun n d=>(nk n,V.ref d)) ns ds
theorem FK:∀{ns:List Nm} {ds:List Addr} (n:Nm) (d:Addr),ns.length=ds.length→zk (ns++[n]) (ds++[d])=zk ns ds++[(nk n,V.ref d)]
 | [],[],_,_,_=>rfl
 | [],_::_,_,_,h=>by simp at h
 | _::_,[],_,_,h=>by simp at h
 | x::r,y::t,n,d,h=>by
   show(nk x,V.ref y)::zk (r++[n]) (t++[d])=_
   rw[FK n d (by simpa using h)]
   rfl
theorem BW:∀{ns:List Nm} {ds:List Addr},ns.length=ds.length→(zk ns ds).map (·.1)=ns.map nk
 | [],[],_=>rfl
 | [],_::_,h=>by simp at h
 | _::_,[],h=>by simp at h
 | x::r,y::t,h=>by
   show nk x::(zk r t).map (·.1)=nk x::r.map nk
   rw[BW (by simpa using h)]
def sF:List Nm→List Addr→Nm→Addr
 | x::r,d::t,n=>if x=n then d else sF r t n
 | _,_,_=>0
theorem Jh:∀{ns:List Nm} {ds:List Addr} {n:Nm},ns.length=ds.length→n∈ns→iS (zk ns ds) (nk n)=some (.ref (sF ns ds n))
 | [],_,_,_,hn=>by cases hn
 | _::_,[],_,h,_=>by simp at h
 | x::r,y::t,n,h,hn=>by
   show iS ((nk x,V.ref y)::zk r t) (nk n)=some (.ref (if x=n then y else sF r t n))
   by_cases e:x=n
   · subst e
     rw[jm rfl,aar rfl]
   · have hr:n∈r:=(XY.mp hn).elim (fun z=>absurd z.symm e) id
     rw[jg (fun z=>e (oT z)),Jh (by simpa using h) hr,aak e]
theorem BX:∀{ns:List Nm} {ds:List Addr} {n:Nm},ns.length=ds.length→n∈ns→sF ns ds n∈ds
 | [],_,_,_,hn=>by cases hn
 | _::_,[],_,h,_=>by simp at h
 | x::r,y::t,n,h,hn=>by
   show(if x=n then y else sF r t n)∈y::t
   by_cases e:x=n
   · rw[aar e];exact aal
   · rw[aak e]
     exact aaf _ (BX (by simpa using h) ((XY.mp hn).elim (fun z=>absurd z.symm e) id))
theorem Ji:∀{ns:List Nm} {ds:List Addr} {n m:Nm},ns.length=ds.length→ds.Nodup→n∈ns→m∈ns→sF ns ds n=sF ns ds m→n=m
 | [],_,_,_,_,_,hn,_,_=>by cases hn
 | _::_,[],_,_,h,_,_,_,_=>by simp at h
 | x::r,y::t,n,m,h,nd,hn,hm,e=>by
   have hl:r.length=t.length:=by simpa using h
   rw[aaK] at nd
   have e:(if x=n then y else sF r t n)=(if x=m then y else sF r t m):=e
   by_cases e1:x=n
   · by_cases e2:x=m
     · exact e1.symm.trans e2
     · rw[aar e1,aak e2] at e
       exact absurd (e▸BX hl ((XY.mp hm).elim (fun z=>absurd z.symm e2) id)) nd.1
   · have O5:=(XY.mp hn).elim (fun z=>absurd z.symm e1) id
     by_cases e2:x=m
     · rw[aak e1,aar e2] at e
       exact absurd (e▸BX hl O5) nd.1
     · rw[aak e1,aak e2] at e
       exact Ji hl nd.2 O5 ((XY.mp hm).elim (fun z=>absurd z.symm e2) id) e
structure UX(H:Hp)(p:Addr)(ns:List Nm)(ad:Nm→Addr)(sf:Nm→List Nm):Prop where
 at_:∃kvs,H p=some (.dT kvs)∧(∀n∈ns,iS kvs (nk n)=some (.ref (ad n)))∧kvs.map (·.1)=ns.map nk
 inj:∀n∈ns,∀m∈ns,ad n=ad m→n=m
 ks:∀n∈ns,Al H (ad n) (sf n)
theorem K7{ls:List Ln}{l:Ln}{m n:Nm}:Sa (ls++[l]) m n↔Sa ls m n∨(l.nm=n∧l.up=some m)∨(l.nm=m∧l.lo=some n):=by
 unfold Sa
 constructor
 · rintro⟨x,hx,q⟩
   rcases XW.mp hx with h|h
   · exact .inl ⟨x,h,q⟩
   · rw[UK.mp h] at q;exact .inr q
 · rintro(⟨x,hx,q⟩|q)
   · exact⟨x,aap _ hx,q⟩
   · exact⟨l,by simp,q⟩
section
variable{P:Program}{w:World}{K:PySem.W.Frag}{mg:Str→Option Value}{base:Heap}{A:Ad}
def Qs(A:Ad):Sp:=fun vs H Q _=>∃(a:Addr)(ls:List Ln),vs=[.ref a]∧ql A H a ls∧tX ls.length∧(ls.map (·.nm)).Nodup∧pZ ls∧
 ∀p H' ad sf,gg H H'→H p=none→(∀n∈ls.map (·.nm),H (ad n)=none)→UX H' p (ls.map (·.nm)) ad sf→(∀n,(sf n).Nodup∧∀m,m∈sf n↔Sa ls m n)→Q (.ref p) H'
theorem uV(T:Txt mg)(O:Ok K mg A):iw P w K mg base m_ 1 A.pk A.pq ["lines"] (Qs A):=by
 refine O.rB.f.ok ko (fun vs H Q E h=>?_) (fun jL A0 outer s H vs Q E hr h=>?_)
 · obtain⟨a,ls,rfl,_⟩:=h
   rfl
 · obtain⟨a,ls,rfl,⟨as,ha,pa⟩,jK,nd,cl,q⟩:=h
   have hlen:=Paired.length pa
   refine⟨_,(c_ (gs (i:=1) ko.nd rfl (Or.inl rfl) mf)
     (c_ (iL PassesOwn.never rfl (iq (pv 0)) (gr (i:=2) ko.nd rfl (Or.inl rfl)) (e_ (jB (by exact il hr) (pv 1) (gz (pv 2) rfl) mf rfl)))
     (c_ (iL PassesOwn.never rfl (iq (pv 0)) (gr (i:=2) ko.nd rfl (Or.inl rfl)) (c_ (oQ (iF (jn (pQ (gz (pv 2) rfl))) (e_ (jB (by exact il hr) (i3 (by exact il hr) (pv 1) (gz (pv 2) rfl) (fun _ _=>rfl)) (gz (pv 2) rfl) kS rfl)) ib))
     (e_ (iF (jn (pQ (gz (pv 2) rfl))) (e_ (jB (by exact il hr) (i3 (by exact il hr) (pv 1) (gz (pv 2) rfl) (fun _ _=>rfl)) (gz (pv 2) rfl) kS rfl)) ib))))
     (e_ (h_ (pv 1)))))),?_⟩
   refine L0 ?_;intro _ _ _
   intro p hp
   have s1:gg H (upd H p (.dT [])):=(gg.refl H).new hp
   refine⟨_,rfl,a,rfl,⟨_,g_.of (s1 a _ ha)⟩,i0 (K:=K) (a:=a) (xs:=as.map V.ref) (fun i σ H2=>∃(v:Option V)(ds:List Addr),σ=[some (.ref a),some (.ref p),v]∧gg H H2∧H2 p=some (.dT (zk ((ls.take i).map (·.nm)) ds))∧ds.length=((ls.take i).map (·.nm)).length∧ds.Nodup∧(∀d∈ds,H d=none∧d≠p∧H2 d=some (.dT [])))
     ⟨none,[],rfl,s1,b_,rfl,aa6,fun d hd=>by cases hd⟩ (fun i σ H2 _ ⟨_,_,_,s3,_⟩=>g_.of (s3 a _ ha)) ?_ ?_⟩
   · rintro i v σ H2 hx ⟨v0,ds,rfl,s3,h1,h2,h3,h4⟩
     obtain⟨b,hb,rfl⟩:=j7 hx
     obtain⟨l,hl,dx,vn,vu,vl,g1,⟨t,rfl,g2⟩,g3,g4⟩:=iC pa hb
     have hi:i<ls.length:=(Rt.mp hl).1
     intro d hd
     have s4:gg H (upd H2 d (.dT [])):=s3.new hd
     have VO:d≠p:=fun z=>by rw[z,h1] at hd;cases hd
     have Kf:d∉ds:=fun z=>by rw[(h4 d z).2.2] at hd;cases hd
     have Lv:upd H2 d (.dT []) p=some (.dT (zk ((ls.take i).map (·.nm)) ds)):=by rw[de VO.symm];exact h1
     have zx:l.nm∉(ls.take i).map (·.nm):=fun z=>by
       have e2:(ls.map (·.nm)).take i=(ls.take i).map (·.nm):=List.map_take.symm
       rw[←e2] at z
       obtain⟨j,hj,e⟩:=aaH.mp z |>.imp fun j h=>(⟨(Rt.mp h).1,h⟩:j<((ls.map (·.nm)).take i).length∧((ls.map (·.nm)).take i)[j]?=some l.nm)
       have Hn:j<i:=by rw[aav] at hj;omega
       rw[abo,aar Hn] at e
       have e3:(ls.map (·.nm))[i]?=some l.nm:=by rw[aah,hl];rfl
       have:=(abz (Rt.mp e).1 nd).mp (e.trans e3.symm)
       omega
     refine⟨_,rfl,_,rfl,b,A.hG,dx,_,_,rfl,s4 _ _ g1,O.iR,O.hE,i5,p,_,rfl,mY.t (k:=nk l.nm) Lv (s4 _ _ g2) ?_,?_⟩
     · have:(zk ((ls.take i).map (·.nm)) ds).length≤ds.length:=by unfold zk;rw[List.length_zipWith];exact Nat.min_le_right _ _
       rw[h2,Ro,aav] at this
       exact aba (m:=4000) (by have:tX ls.length:=jK;unfold tX at this;omega) (by decide)
     · have e:putK (zk ((ls.take i).map (·.nm)) ds) (nk l.nm) (V.ref d)=zk ((ls.take (i+1)).map (·.nm)) (ds++[d]):=by
         rw[take_snoc hl,aaq]
         show _=zk (_++[l.nm]) _
         rw[FK _ _ h2.symm]
         refine CZ _ ?_
         exact DH (by rw[BW h2.symm];exact fun z=>zx (rK.mp z))
       rw[e]
       refine⟨_,ds++[d],rfl,s4.upd hp,b_,?_,?_,?_⟩
       · rw[take_snoc hl,aaq,VJ,VJ,h2];rfl
       · rw[aaO]
         exact⟨h3,by simp,fun x hx y hy z=>Kf (by rw[UK.mp hy] at z;exact z▸hx)⟩
       · intro x hx
         rcases XW.mp hx with hx|hx
         · obtain⟨k1,k2,k3⟩:=h4 x hx
           refine⟨k1,k2,?_⟩
           rw[de k2,de (fun z=>by rw[z] at hx;exact Kf hx)]
           exact k3
         · rw[UK.mp hx]
           exact⟨s3.free hd,VO,by rw[de VO];exact b_⟩
   · rintro σ H2 ⟨v0,ds,rfl,s3,h1,h2,h3,h4⟩
     have el:(as.map V.ref).length=ls.length:=by rw[Ro];exact hlen
     rw[el,aai] at h1 h2
     have Ti:=h2.symm
     have Cf:∀n∈ls.map (·.nm),iS (zk (ls.map (·.nm)) ds) (nk n)=some (.ref (sF (ls.map (·.nm)) ds n)):=fun n hn=>Jh Ti hn
     have LD:∀n∈ls.map (·.nm),∀m∈ls.map (·.nm),sF (ls.map (·.nm)) ds n=sF (ls.map (·.nm)) ds m→n=m:=fun n hn m hm e=>Ji Ti h3 hn hm e
     have rR:∀n∈ls.map (·.nm),H (sF (ls.map (·.nm)) ds n)=none∧sF (ls.map (·.nm)) ds n≠p∧H2 (sF (ls.map (·.nm)) ds n)=some (.dT []):=fun n hn=>h4 _ (BX Ti hn)
     generalize sF (ls.map (·.nm)) ds=ad at Cf LD rR
     have Mj:=BW Ti
     generalize zk (ls.map (·.nm)) ds=kvs at h1 Cf Mj
     refine⟨_,rfl,a,rfl,⟨_,g_.of (s3 a _ ha)⟩,i0 (K:=K) (a:=a) (xs:=as.map V.ref) (fun i σ H3=>∃(v:Option V)(sf:Nm→List Nm),σ=[some (.ref a),some (.ref p),v]∧gg H H3∧H3 p=some (.dT kvs)∧(∀n∈ls.map (·.nm),Al H3 (ad n) (sf n))∧∀n,(sf n).Nodup∧(sf n).length≤2*i∧∀m,m∈sf n↔Sa (ls.take i) m n)
       ⟨v0,fun _=>[],rfl,s3,h1,fun n hn=>⟨[],(rR n hn).2.2,rfl⟩,fun n=>⟨aa6,aaE _,fun m=>⟨(fun z=>by cases z),fun⟨x,hx,_⟩=>by rw[aa9] at hx;cases hx⟩⟩⟩ (fun i σ H2 _ ⟨_,_,_,s3,_⟩=>g_.of (s3 a _ ha)) ?_ ?_⟩
     · rintro i v σ H3 hx ⟨v1,sf,rfl,s4,k1,k2,k3⟩
       obtain⟨b,hb,rfl⟩:=j7 hx
       obtain⟨l,hl,dx,vn,vu,vl,g1,⟨t,rfl,g2⟩,g3,g4⟩:=iC pa hb
       have hi:i<ls.length:=(Rt.mp hl).1
       have hi4:i<4000:=aax hi jK
       have xU:l.nm∈ls.map (·.nm):=aac (UT hl)
       have step:∀{H3:Hp} {sf:Nm→List Nm} {n m:Nm},gg H H3→H3 p=some (.dT kvs)→(∀n∈ls.map (·.nm),Al H3 (ad n) (sf n))→n∈ls.map (·.nm)→∀dk,H3 (ad n)=some (.dT dk)→dk.map (·.1)=(sf n).map nk→
           gg H (upd H3 (ad n) (.dT (putK dk (nk m) (V.bl true))))∧upd H3 (ad n) (.dT (putK dk (nk m) (V.bl true))) p=some (.dT kvs)∧(∀x∈ls.map (·.nm),Al (upd H3 (ad n) (.dT (putK dk (nk m) (V.bl true)))) (ad x) (if x=n then n6 (sf n) m else sf x)):=fun{H3 sf n m} s4 k1 k2 hn dk hdk VP=>by
         refine⟨s4.upd (rR n hn).1,by rw[de (rR n hn).2.1.symm];exact k1,fun x hx=>?_⟩
         by_cases e:x=n
         · subst e
           rw[aar rfl]
           exact⟨_,b_,uU VP m _⟩
         · rw[aak e]
           obtain⟨Oo,e1,e2⟩:=k2 x hx
           exact⟨Oo,by rw[de (fun z=>e (LD x hx n hn z))];exact e1,e2⟩
       have Tj:∀m n,Sa (ls.take (i+1)) m n↔Sa (ls.take i) m n∨(l.nm=n∧l.up=some m)∨(l.nm=m∧l.lo=some n):=fun m n=>by rw[take_snoc hl];exact K7
       refine⟨fun σ H4=>∃sf:Nm→List Nm,σ=[some (.ref a),some (.ref p),some (.ref b)]∧gg H H4∧H4 p=some (.dT kvs)∧(∀n∈ls.map (·.nm),Al H4 (ad n) (sf n))∧∀n,(sf n).Nodup∧(sf n).length≤2*i+1∧∀m,m∈sf n↔Sa (ls.take i) m n∨(l.nm=n∧l.up=some m),?_,?_⟩
       · refine⟨_,rfl,b,A.hG,dx,_,_,rfl,s4 _ _ g1,O.iR,O.iI,ET,_,rfl,?_⟩
         cases hu:l.up with
         | none=>
           rw[hu] at g3
           rw[show vu=V.jx from g3]
           exact⟨sf,rfl,s4,k1,k2,fun n=>⟨(k3 n).1,by have:=(k3 n).2.1;omega,fun m=>by rw[(k3 n).2.2 m];exact⟨.inl,fun z=>z.elim id fun z=>by cases z.2⟩⟩⟩
         | some u=>
           rw[hu] at g3
           obtain⟨tu,rfl,gu⟩:=(show lr H vu u from g3)
           obtain⟨dk,e1,e2⟩:=k2 l.nm xU
           have YN:dk.length=(sf l.nm).length:=by have:=aaW List.length e2;rwa [Ro,Ro] at this
           refine⟨_,rfl,_,rfl,b,A.hG,dx,_,_,rfl,s4 _ _ g1,O.iR,O.hE,i5,p,.ref (ad l.nm),rfl,?_,_,rfl,b,A.hG,dx,_,_,rfl,s4 _ _ g1,O.iR,O.iI,ET,ad l.nm,_,rfl,mY.t (k:=nk u) e1 (s4 _ _ gu) (aba (m:=8000) (by have:=(k3 l.nm).2.1;omega) (by decide)),?_⟩
           · have:=jb.t (k:=nk l.nm) k1 (s4 _ _ g2)
             rw[Cf _ xU] at this
             exact this
           · obtain⟨z1,z2,z3⟩:=step (m:=u) s4 k1 k2 xU dk e1 e2
             refine⟨fun x=>if x=l.nm then n6 (sf l.nm) u else sf x,rfl,z1,z2,z3,fun n=>?_⟩
             obtain⟨y1,y2,y3⟩:=k3 n
             show(if n=l.nm then n6 (sf l.nm) u else sf n).Nodup∧(if n=l.nm then n6 (sf l.nm) u else sf n).length≤_∧∀m,m∈(if n=l.nm then n6 (sf l.nm) u else sf n)↔_
             by_cases e:n=l.nm
             · subst e
               rw[aar rfl]
               have:=DI (l:=sf l.nm) (m:=u)
               refine⟨ye y1,by omega,fun m=>?_⟩
               rw[rL,y3 m]
               exact⟨fun z=>z.elim .inl fun z=>.inr ⟨rfl,by rw[z]⟩,fun z=>z.elim .inl fun z=>.inr (aau z.2).symm⟩
             · rw[aak e]
               refine⟨y1,by omega,fun m=>?_⟩
               rw[y3 m]
               exact⟨.inl,fun z=>z.elim id fun z=>absurd z.1.symm e⟩
       · rintro σ H4 ⟨Ge,rfl,s5,k4,k5,k6⟩
         have fin:∀(Oq:Nm→List Nm)(n:Nm),((Oq n).Nodup∧(Oq n).length≤2*i+2∧∀m,m∈Oq n↔(Sa (ls.take i) m n∨(l.nm=n∧l.up=some m))∨(l.nm=m∧l.lo=some n))→(Oq n).Nodup∧(Oq n).length≤2*(i+1)∧∀m,m∈Oq n↔Sa (ls.take (i+1)) m n:=fun Oq n ⟨z1,z2,z3⟩=>
           ⟨z1,by omega,fun m=>by rw[z3 m,Tj m n,or_assoc]⟩
         refine⟨_,rfl,b,A.hG,dx,_,_,rfl,s5 _ _ g1,O.iR,O.iJ,EU,_,rfl,?_⟩
         cases hu:l.lo with
         | none=>
           rw[hu] at g4
           rw[show vl=V.jx from g4]
           refine⟨_,Ge,rfl,s5,k4,k5,fun n=>fin Ge n ⟨(k6 n).1,by have:=(k6 n).2.1;omega,fun m=>?_⟩⟩
           rw[(k6 n).2.2 m,hu]
           exact⟨.inl,fun z=>z.elim id fun z=>by cases z.2⟩
         | some d=>
           have Kf:d∈ls.map (·.nm):=(cl l (UT hl)).2 d hu
           rw[hu] at g4
           obtain⟨td,rfl,gd⟩:=(show lr H vl d from g4)
           obtain⟨dk,e1,e2⟩:=k5 d Kf
           have YN:dk.length=(Ge d).length:=by have:=aaW List.length e2;rwa [Ro,Ro] at this
           refine⟨_,rfl,_,rfl,b,A.hG,dx,_,_,rfl,s5 _ _ g1,O.iR,O.iJ,EU,p,.ref (ad d),rfl,?_,_,rfl,b,A.hG,dx,_,_,rfl,s5 _ _ g1,O.iR,O.hE,i5,ad d,_,rfl,mY.t (k:=nk l.nm) e1 (s5 _ _ g2) (aba (m:=8001) (by have:=(k6 d).2.1;omega) (by decide)),?_⟩
           · have:=jb.t (k:=nk d) k4 (s5 _ _ gd)
             rw[Cf _ Kf] at this
             exact this
           · obtain⟨z1,z2,z3⟩:=step (m:=l.nm) s5 k4 k5 Kf dk e1 e2
             refine⟨_,fun x=>if x=d then n6 (Ge d) l.nm else Ge x,rfl,z1,z2,z3,fun n=>fin (fun x=>if x=d then n6 (Ge d) l.nm else Ge x) n ?_⟩
             obtain⟨y1,y2,y3⟩:=k6 n
             show(if n=d then n6 (Ge d) l.nm else Ge n).Nodup∧(if n=d then n6 (Ge d) l.nm else Ge n).length≤_∧∀m,m∈(if n=d then n6 (Ge d) l.nm else Ge n)↔_
             by_cases e:n=d
             · subst e
               rw[aar rfl]
               have:=DI (l:=Ge n) (m:=l.nm)
               refine⟨ye y1,by omega,fun m=>?_⟩
               rw[rL,y3 m,hu]
               exact⟨fun z=>z.elim .inl fun z=>.inr ⟨z.symm,rfl⟩,fun z=>z.elim .inl fun z=>.inr z.1.symm⟩
             · rw[aak e]
               refine⟨y1,by omega,fun m=>?_⟩
               rw[y3 m,hu]
               exact⟨.inl,fun z=>z.elim id fun z=>absurd (aau z.2).symm e⟩
     · rintro σ H3 ⟨v1,sf,rfl,s4,k1,k2,k3⟩
       rw[Ro,hlen] at k3
       exact⟨_,rfl,q p _ ad sf s4 hp (fun n hn=>(rR n hn).1) ⟨⟨kvs,k1,Cf,Mj⟩,LD,k2⟩ fun n=>⟨(k3 n).1,fun m=>by rw[(k3 n).2.2 m,aai]⟩⟩
end
theorem lr.upd{H:Hp}{v:V}{n:Nm}{x:Addr}{o o':HO}(h:lr H v n)(hx:H x=some o')(ht:∀xs,o'≠.tup xs):lr (L2.upd H x o) v n:=by
 obtain⟨t,e,VF⟩:=h
 exact⟨t,e,by rw[de (i_ VF hx (fun z=>ht _ z.symm))];exact VF⟩
theorem rM{dk:List (List Key×V)}{l:List Nm}(h:dk.map (·.1)=l.map nk):dk.length=l.length:=by
 have:=aaW List.length h
 rwa [Ro,Ro] at this
theorem DJ{dk:List (List Key×V)}{l:List Nm}(h:dk.map (·.1)=l.map nk){i:Nat}{k:List Key}{v:V}(hi:dk[i]?=some (k,v)):∃n,l[i]?=some n∧k=nk n:=by
 have h1:(dk.map (·.1))[i]?=some k:=by rw[aah,hi];rfl
 rw[h,aah] at h1
 obtain⟨n,e,e2⟩:=aaC.mp h1
 exact⟨n,e,e2.symm⟩
theorem keys_has{dk:List (List Key×V)}{l:List Nm}(h:dk.map (·.1)=l.map nk)(n:Nm):(iS dk (nk n)).isSome=decide (n∈l):=by
 by_cases m:n∈l
 · rw[VE m];exact sj.mpr (by rw[h];exact rK.mpr m)
 · rw[aaa m,abj];exact fun z=>m (rK.mp (by rw[←h];exact sj.mp z))
theorem DK:∀(more:List (List Key×V))(dk:List (List Key×V))(l r:List Nm),dk.map (·.1)=l.map nk→more.map (·.1)=r.map nk→l.Nodup→∃l':List Nm,(putAll dk more).map (·.1)=l'.map nk∧l'.Nodup∧∀m,m∈l'↔m∈l∨m∈r
 | [],dk,l,r,h1,h2,nd=>by
   have:r=[]:=by cases r with|nil=>rfl|cons _ _=>cases h2
   subst this
   exact⟨l,h1,nd,fun m=>by simp⟩
 | p::t,dk,l,r,h1,h2,nd=>by
   cases r with
   | nil=>cases h2
   | cons x r=>
     rw[aas,aas] at h2
     injection h2 with e1 e2
     rw[qS,e1]
     obtain⟨l',z1,z2,z3⟩:=DK t (putK dk (nk x) p.2) (n6 l x) r (uU h1 x _) e2 (ye nd)
     refine⟨l',z1,z2,fun m=>?_⟩
     rw[z3 m,rL,XY,or_assoc]
section
variable{P:Program}{w:World}{K:PySem.W.Frag}{mg:Str→Option Value}{base:Heap}{A:Ad}
def NA:Sp:=fun vs H Q _=>∃(d a:Addr)(xs:List Nm)(ka:List (List Key×V))(af:Nm→List Nm),vs=[.ref d,.ref a]∧Al H d xs∧d≠a∧H a=some (.dT ka)∧(∀x∈xs,∃b,iS ka (nk x)=some (.ref b)∧b≠d∧Al H b (af x))∧xs.length≤4000∧(∀x∈xs,(af x).length≤4000)∧
 ∀p H' rs,gg H H'→H p=none→Al H' p rs→rs.Nodup→(∀m,m∈rs↔∃x∈xs,m=x∨m∈af x)→Q (.ref p) H'
theorem G0(T:Txt mg)(O:Ok K mg A):iw P w K mg base m_ 1 A.Dy A.Dz ["names","ahead"] NA:=by
 refine O.joined.f.ok vJ (fun vs H Q E h=>?_) (fun jL A0 outer s H vs Q E hr h=>?_)
 · obtain⟨d,a,xs,ka,af,rfl,_⟩:=h
   rfl
 · obtain⟨d,a,xs,ka,af,rfl,⟨kd,hd,hk⟩,hda,ha,hb,Tn,haf,q⟩:=h
   refine⟨_,(c_ (gs (i:=2) vJ.nd rfl (Or.inl rfl) mf)
     (c_ (x9 (iL PassesOwn.never rfl (yN (pv 0)) (gr (i:=3) vJ.nd rfl (Or.inl rfl)) (c_ (jB (by exact il hr) (pv 2) (pv 3) kS rfl)
     (e_ (hZ (IK (by exact il hr) (pv 2) (i3 (by exact il hr) (pv 1) (pv 3) (fun _ _=>rfl)) ⟨rfl,rfl,rfl,rfl⟩))))))
     (e_ (h_ (pv 2))))),?_⟩
   refine Fz ?_;intro _ _
   intro p hp
   have Rv:p≠d:=(gc hd hp).symm
   have Rw:p≠a:=(gc ha hp).symm
   refine⟨_,rfl,d,kd,rfl,by rw[de Rv.symm];exact hd,fun o uz=>?_⟩
   have Hz:=rM hk
   refine AS (d:=d) (o:=o) (kvs:=kd) (fun i σ H2=>∃(v:Option V)(kf:List (List Key×V))(rs:List Nm),σ=[some (.ref d),some (.ref a),some (.ref p),v]∧(∀b o,H b=some o→b≠d→H2 b=some o)∧H2 d=some (.mK o (.dT kd))∧H2 p=some (.dT kf)∧kf.map (·.1)=rs.map nk∧rs.Nodup∧kf.length≤i*4001∧∀m,m∈rs↔∃x∈xs.take i,m=x∨m∈af x)
     ⟨none,[],[],rfl,fun b o e nb=>by rw[de nb,de (gc e hp)];exact e,b_,by rw[de Rv];exact b_,rfl,aa6,by simp,fun m=>by simp⟩ (fun i σ H2 ⟨_,_,_,_,_,e,_⟩=>e) ?_ ?_
   · rintro i k v t σ H2 hi ht ⟨v0,kf,rs,rfl,h1,h2,h3,h4,h5,h6,h7⟩
     obtain⟨x,hx,rfl⟩:=DJ hk hi
     have YO:x∈xs:=UT hx
     have zv:i<xs.length:=(Rt.mp hx).1
     obtain⟨b,e1,e2,kb,e3,e4⟩:=hb x YO
     have YQ:b≠p:=gc e3 hp
     have Mg:=rM e4
     have VQ:=haf x YO
     have htp:t≠p:=fun z=>by rw[z,h3] at ht;cases ht
     have hl:=jv kf (nk x) (V.bl true)
     have sz:sizeLine=16777216:=aat
     have hmul:i*4001≤4000*4001:=Nat.mul_le_mul_right _ (by omega)
     refine⟨_,rfl,_,rfl,p,_,rfl,mY.t (k:=nk x) h3 ht (by omega),?_⟩
     have sX:putK kf (nk x) (V.bl true)≠[]:=fun z=>by
       have:=uU h4 x (V.bl true)
       rw[z] at this
       have hm:x∈n6 rs x:=rL.mpr (.inr rfl)
       cases hq:n6 rs x with
       | nil=>rw[hq] at hm;cases hm
       | cons _ _=>rw[hq] at this;cases this
     refine⟨_,rfl,p,rfl,.inr ⟨_,.inl b_⟩,_,rfl,_,rfl,a,.ref b,rfl,?_,b,_,kb,rfl,b_,.inl (by rw[de YQ];exact h1 _ _ e3 e2),YQ.symm,sX,by omega,?_⟩
     · have:=jb.t (H:=L2.upd H2 p (.dT (putK kf (nk x) (V.bl true)))) (k:=nk x) (by rw[de Rw.symm];exact h1 a _ ha hda.symm) (b:=t) (by rw[de htp];exact ht)
       rw[e1] at this
       exact this
     · obtain⟨l',z1,z2,z3⟩:=DK kb _ (n6 rs x) (af x) (uU h4 x (V.bl true)) e4 (ye h5)
       refine⟨_,_,l',rfl,fun b o e nb=>?_,?_,b_,z1,z2,?_,fun m=>?_⟩
       · rw[de (gc e hp),de (gc e hp)];exact h1 b o e nb
       · rw[de Rv.symm,de Rv.symm];exact h2
       · have:=pW kb (putK kf (nk x) (V.bl true))
         have:(i+1)*4001=i*4001+4001:=Nat.succ_mul _ _
         omega
       · rw[z3 m,rL,h7 m,take_snoc hx]
         constructor
         · rintro((⟨y,hy,z⟩|z)|z)
           · exact⟨y,aap _ hy,z⟩
           · exact⟨x,by simp,.inl z⟩
           · exact⟨x,by simp,.inr z⟩
         · rintro⟨y,hy,z⟩
           rcases XW.mp hy with hy|hy
           · exact .inl (.inl ⟨y,hy,z⟩)
           · rw[UK.mp hy] at z
             exact z.elim (fun z=>.inl (.inr z)) .inr
   · rintro σ H2 ⟨v0,kf,rs,rfl,h1,h2,h3,h4,h5,h6,h7⟩
     rw[Hz,aai] at h7
     refine⟨d,o,_,h2,uz,_,rfl,q p _ rs (fun b u e=>?_) hp ⟨kf,by rw[de Rv];exact h3,h4⟩ h5 h7⟩
     by_cases VR:b=d
     · subst VR;rw[b_];rw[hd] at e;exact e
     · rw[de VR];exact h1 b u e VR
end
structure oU(ls:List Ln)(H1 H:Hp)(h:Addr)(S:List Nm)(af:Nm→List Nm):Prop where
 ex:∃kvs,H h=some (.dT kvs)∧kvs.map (·.1)=S.map nk∧∀n∈S,∃b,iS kvs (nk n)=some (.ref b)∧b≠h∧H1 b=none∧Al H b (af n)
 nd:S.Nodup
 good:∀n∈S,n∈ls.map (·.nm)∧(af n).Nodup∧∀m,m∈af n↔Ah ls m n
theorem oU.same{ls:List Ln}{H1 H H':Hp}{h:Addr}{S:List Nm}{af:Nm→List Nm}(x:oU ls H1 H h S af)(s:gg H H'):oU ls H1 H' h S af:=by
 obtain⟨⟨kvs,e1,e2,e3⟩,nd,g⟩:=x
 refine⟨⟨kvs,s _ _ e1,e2,fun n hn=>?_⟩,nd,g⟩
 obtain⟨b,z1,z2,z3,dk,z4,z5⟩:=e3 n hn
 exact⟨b,z1,z2,z3,dk,s _ _ z4,z5⟩
theorem oU.lst{ls:List Ln}{H1 H:Hp}{h c:Addr}{S:List Nm}{af:Nm→List Nm}{xs:List V}{o:HO}(x:oU ls H1 H h S af)(hc:H c=some (.lst xs)):oU ls H1 (L2.upd H c o) h S af:=by
 obtain⟨⟨kvs,e1,e2,e3⟩,nd,g⟩:=x
 refine⟨⟨kvs,by rw[de (i_ e1 hc (fun z=>by cases z))];exact e1,e2,fun n hn=>?_⟩,nd,g⟩
 obtain⟨b,z1,z2,z3,dk,z4,z5⟩:=e3 n hn
 exact⟨b,z1,z2,z3,dk,by rw[de (i_ z4 hc (fun z=>by cases z))];exact z4,z5⟩
theorem FL{sf:Nm→List Nm}{B n:Nat}{st S:List Nm}(r:Run sf B n st S):st.length≤B:=by
 cases r with
 | nil=>exact aaE _
 | skip _ h _=>exact h
 | fin _ _ h _=>exact h
 | push _ _ h _=>exact h
theorem DL{α β:Type}{F:α→β→Prop}{vs:List α}{xs:List β}{x:β}(p:Paired F vs (xs++[x])):∃To v,vs=To++[v]∧Paired F To xs∧F v x:=by
 induction xs generalizing vs with
 | nil=>
   cases p with
   | cons f t=>cases t;exact⟨[],_,rfl,.nil,f⟩
 | cons y r ih=>
   cases p with
   | cons f t=>
     obtain⟨To,v,rfl,h1,h2⟩:=ih t
     exact⟨_::To,v,rfl,.cons f h1,h2⟩
def BY(H:Hp)(p:Addr)(ls:List Ln):Prop:=∃kvs,H p=some (.dT kvs)∧∀n∈ls.map (·.nm),∃b dk,iS kvs (nk n)=some (.ref b)∧H b=some (.dT dk)∧∀m,(iS dk (nk m)).isSome=true↔Ah ls m n
theorem BY.same{H H':Hp}{p:Addr}{ls:List Ln}(x:BY H p ls)(s:gg H H'):BY H' p ls:=by
 obtain⟨kvs,e1,e2⟩:=x
 refine⟨kvs,s _ _ e1,fun n hn=>?_⟩
 obtain⟨b,dk,z1,z2,z3⟩:=e2 n hn
 exact⟨b,dk,z1,s _ _ z2,z3⟩
section
variable{P:Program}{w:World}{K:PySem.W.Frag}{mg:Str→Option Value}{base:Heap}{A:Ad}
def Qt(A:Ad):Sp:=fun vs H Q _=>∃(a:Addr)(ls:List Ln),vs=[.ref a]∧ql A H a ls∧tX ls.length∧(ls.map (·.nm)).Nodup∧pZ ls∧IV ls∧∀p H',gg H H'→H p=none→BY H' p ls→Q (.ref p) H'
theorem BZ(T:Txt mg)(O:Ok K mg A):iw P w K mg base m_ 2 A.wQ A.wR ["lines"] (Qt A):=by
 have wb:=uV (P:=P) (w:=w) (base:=base) T O
 have JP:=G0 (P:=P) (w:=w) (base:=base) T O
 refine O.AW.f.ok jE (fun vs H Q E h=>?_) (fun jL A0 outer s H vs Q E hr h=>?_)
 · obtain⟨a,ls,rfl,_⟩:=h
   rfl
 · obtain⟨a,ls,rfl,la,jK,nd,cl,tp,q⟩:=h
   obtain⟨as,ha,pa⟩:=id la
   have hlen:=Paired.length pa
   have xV:ls.length≤4000:=jK
   refine⟨_,(c_ (gs (i:=1) jE.nd rfl (Or.inl rfl) (pN O.rB wb hr (a_ (pv 0) d_)))
     (c_ (gs (i:=2) jE.nd rfl (Or.inr rfl) mf)
     (c_ (iL PassesOwn.never rfl (iq (pv 0)) (gr (i:=3) jE.nd rfl (Or.inl rfl)) (c_ (gs (i:=4) jE.nd rfl (Or.inl rfl) (iQ (a_ (gz (pv 3) rfl) d_)))
     (e_ (yi PassesOwn.never (uc (pv 4) (fun _=>rfl)) (c_ (gs (i:=5) jE.nd rfl (Or.inl rfl) (MV aaJ PySem.F.slot_list_pop PySem.F.type_list_pop MX (pv 4)))
     (c_ (iF (jn (oP (by exact il hr) (pv 5) (pv 2))) (e_ (CM)) ib)
     (c_ (x9 (vp (j:=6) wG (fO oq).names [7] jE.nd rfl rfl rfl (yN (i3 (by exact il hr) (pv 1) (pv 5) (fun _ _=>rfl))) rfl (by decide+kernel) (fun _ _ _ _=>(gr (i:=7) jE.nd rfl (Or.inl rfl))) (fun _ _ _ _=>⟨_,nG (jn (lg (by exact il hr) (pv 7) (pv 2))),by(try simp only [iu]);rfl⟩) (fun _ _ _ _=>⟨_,(pv 7),by(try simp only [iu]);rfl⟩)))
     (e_ (iF (uc (pv 6) (fun _=>rfl)) (c_ (hZ (qA aaJ aaS aaT kG (pv 4) (a_ (pv 5) d_)))
     (e_ (hZ (qA aaJ PySem.F.slot_list_extend PySem.F.type_list_extend AH (pv 4) (a_ (pv 6) d_))))) (e_ (jB (by exact il hr) (pv 2) (pv 5) (pN O.joined JP hr (a_ (i3 (by exact il hr) (pv 1) (pv 5) (fun _ _=>rfl)) (a_ (pv 2) d_))) rfl)))))))))))
     (e_ (h_ (pv 2)))))),?_⟩
   refine L0 ?_;intro _ _ _
   refine⟨_,rfl,a,ls,rfl,la,jK,nd,cl,fun st H1 ad sf s1 JQ had0 xS Ot=>?_⟩
   obtain⟨⟨kst,LF,Rx,hst3⟩,LD,VP⟩:=xS
   have hN:(1+ls.length*ls.length)≤16000001:=by have:=Nat.mul_le_mul xV xV;omega
   have sz:sizeLine=16777216:=aat
   have Ry:∀n,(sf n).length≤4000:=fun n=>by
     have:=len_sub (ys:=ls.map (·.nm)) (Ot n).1 fun y hy=>(cl.sa (((Ot n).2 y).mp hy)).1
     rw[Ro] at this;omega
   intro h hh
   have s2:gg H1 (L2.upd H1 h (.dT [])):=(gg.refl H1).new hh
   refine⟨_,rfl,a,rfl,⟨_,g_.of (s2 _ _ (s1 _ _ ha))⟩,i0 (K:=K) (a:=a) (xs:=as.map V.ref) (fun i σ H2=>∃(v3 v4 v5 v6:Option V)(S:List Nm)(af:Nm→List Nm),σ=[some (.ref a),some (.ref st),some (.ref h),v3,v4,v5,v6,none]∧gg H1 H2∧oU ls H1 H2 h S af∧∀l∈ls.take i,l.nm∈S)
     ⟨none,none,none,none,[],fun _=>[],rfl,s2,⟨⟨[],b_,rfl,fun n hn=>by cases hn⟩,aa6,fun n hn=>by cases hn⟩,fun l hl=>by rw[aa9] at hl;cases hl⟩ (fun i σ H2 _ ⟨_,_,_,_,_,_,_,s3,_⟩=>g_.of (s3 _ _ (s1 _ _ ha))) ?_ ?_⟩
   · rintro i v σ H2 hx ⟨v3,v4,v5,v6,S0,af0,rfl,s3,D0,hS0⟩
     obtain⟨b,hb,rfl⟩:=j7 hx
     obtain⟨l,hl,dx,vn,vu,vl,g1,⟨t0,rfl,g2⟩,g3,g4⟩:=iC pa hb
     have xU:l.nm∈ls.map (·.nm):=aac (UT hl)
     refine⟨_,rfl,b,A.hG,dx,_,_,rfl,s3 _ _ (s1 _ _ g1),O.iR,O.hE,i5,L2.jK,fun c hc=>?_⟩
     have Ou:H1 c=none:=s3.free hc
     have s4:gg H1 (L2.upd H2 c (.lst [.ref t0])):=s3.new hc
     obtain⟨n0,r0⟩:=IW cl tp Ot l.nm S0
     refine⟨fun m σ H3=>∃(v5 v6:Option V)(sk S:List Nm)(af:Nm→List Nm)(cv:List V),σ=[some (.ref a),some (.ref st),some (.ref h),some (.ref b),some (.ref c),v5,v6,none]∧Run sf (1+ls.length*ls.length) m sk S∧gg H1 H3∧H3 c=some (.lst cv)∧Paired (lr H3) cv sk.reverse∧oU ls H1 H3 h S af∧(∀y∈sk,y∈ls.map (·.nm))∧(l.nm∈sk∨l.nm∈S)∧(∀y∈S0,y∈S),
       ⟨n0,v5,v6,[l.nm],S0,af0,[.ref t0],rfl,r0,s4,b_,.cons ⟨t0,rfl,s4 _ _ (s1 _ _ g2)⟩ .nil,D0.same ((gg.refl H2).new hc),fun y hy=>by rw[UK.mp hy];exact xU,.inl (by simp),fun _ z=>z⟩,?_⟩
     rintro m σ H3 ⟨v5,v6,sk,S,af,cv,rfl,run,s5,Ov,VS,D,VT,Me,hS⟩
     cases sk with
     | nil=>
       have:cv=[]:=by cases VS;rfl
       subst this
       refine⟨_,rfl,false,.inl ⟨_,g_.of Ov,rfl⟩,jU ?_⟩
       refine⟨_,_,_,_,S,af,rfl,s5,D,fun y hy=>?_⟩
       rw[take_snoc hl] at hy
       rcases XW.mp hy with hy|hy
       · exact hS _ (hS0 y hy)
       · rw[UK.mp hy]
         exact Me.elim (fun z=>by cases z) id
     | cons x sk=>
       rw[List.reverse_cons] at VS
       obtain⟨HA,vx,rfl,Rz,t,rfl,ht⟩:=DL VS
       have Tp:x∈ls.map (·.nm):=VT x aal
       have RA:∀y∈sk,y∈ls.map (·.nm):=fun y hy=>VT y (aaf _ hy)
       have Mi:HA.length=sk.length:=by have:=Paired.length Rz;rwa [aa7] at this
       refine⟨_,rfl,true,.inl ⟨_,g_.of Ov,by simp⟩,lU ?_⟩
       obtain⟨n,hn,run'⟩:∃n,m=n+1∧(x∈S∧Run sf (1+ls.length*ls.length) n sk S∨x∉S∧Dg sf S x=[]∧Run sf (1+ls.length*ls.length) n sk (S++[x])∨x∉S∧Dg sf S x≠[]∧Run sf (1+ls.length*ls.length) n ((Dg sf S x).reverse++x::sk) S):=by
         cases run with
         | skip z1 _ z2=>exact⟨_,rfl,.inl ⟨z1,z2⟩⟩
         | fin z1 z2 _ z3=>exact⟨_,rfl,.inr (.inl ⟨z1,z2,z3⟩)⟩
         | push z1 z2 _ z3=>exact⟨_,rfl,.inr (.inr ⟨z1,z2,z3⟩)⟩
       have Q9:sk.length+1≤16000001:=by have:=FL run;rw[aae] at this;omega
       subst hn
       refine⟨fun σ H4=>∃(v5 v6:Option V)(sk S:List Nm)(af:Nm→List Nm)(cv:List V),σ=[some (.ref a),some (.ref st),some (.ref h),some (.ref b),some (.ref c),v5,v6,none]∧Run sf (1+ls.length*ls.length) n sk S∧gg H1 H4∧H4 c=some (.lst cv)∧Paired (lr H4) cv sk.reverse∧oU ls H1 H4 h S af∧(∀y∈sk,y∈ls.map (·.nm))∧(l.nm∈sk∨l.nm∈S)∧(∀y∈S0,y∈S),fun σ' H' z=>⟨n,abR n,z⟩,?_⟩
       refine⟨_,rfl,.inl ⟨rfl,_,g_.of Ov⟩,c,_,.ref t,rfl,rfl,Ov,by simp,?_⟩
       rw[List.dropLast_concat]
       have D4:oU ls H1 (L2.upd H3 c (.lst HA)) h S af:=D.lst Ov
       have s6:gg H1 (L2.upd H3 c (.lst HA)):=s5.upd Ou
       have p4:Paired (lr (L2.upd H3 c (.lst HA))) HA sk.reverse:=Paired.kO Rz fun _ _ z=>z.upd Ov (fun _ z=>by cases z)
       have Pe:L2.upd H3 c (.lst HA) t=some (nT x):=by rw[de (i_ ht Ov (fun z=>by cases z))];exact ht
       have Pg:L2.upd H3 c (.lst HA) c=some (.lst HA):=b_
       generalize L2.upd H3 c (.lst HA)=H4 at D4 s6 p4 Pe Pg ⊢
       obtain⟨⟨kvs,e1,e2,e3⟩,VU,good⟩:=id D4
       refine⟨_,rfl,_,rfl,h,_,rfl,jb.t (k:=nk x) e1 Pe,_,rfl,?_⟩
       rw[keys_has e2 x]
       rcases run' with⟨Ml,r⟩|Mm
       · rw[VE Ml]
         refine lU ⟨_,_,sk,S,af,HA,rfl,r,s6,Pg,p4,D4,RA,?_,hS⟩
         exact Me.elim (fun z=>(XY.mp z).elim (fun z=>.inr (z▸Ml)) .inl) .inr
       · have Ml:x∉S:=Mm.elim (·.1) (·.1)
         rw[aaa Ml]
         refine jU ?_
         obtain⟨dk,VV,hd2⟩:=VP x Tp
         have VW:=s6 _ _ VV
         have RB:ad x≠h:=gc VV hh
         refine⟨_,rfl,_,rfl,st,.ref (ad x),rfl,?_,ad x,dk,rfl,VW,fun o uz=>?_⟩
         · have:=jb.t (k:=nk x) (s6 _ _ LF) Pe
           rw[Rx x Tp] at this
           exact this
         have VX:∀{y:Addr} {u:HO},y≠ad x→H4 y=some u→L2.upd H4 (ad x) (.mK o (.dT dk)) y=some u:=fun ny e=>by rw[de ny];exact e
         refine IG (d:=ad x) (o:=o) (kvs:=dk) (by rw[rM hd2];exact aab (Ry x) (by decide)) (fun i ys σ H5=>∃(v7:Option V),σ=[some (.ref a),some (.ref st),some (.ref h),some (.ref b),some (.ref c),some (.ref t),v6,v7]∧H5=L2.upd H4 (ad x) (.mK o (.dT dk))∧ys.length≤i∧Paired (lr (L2.upd H4 (ad x) (.mK o (.dT dk)))) ys (((sf x).take i).filter fun y=>y∉S))
           ⟨none,rfl,rfl,UU _,.nil⟩ (fun i ys σ H5 ⟨_,_,e,e4,_⟩=>by subst e;exact⟨b_,e4⟩) ?_ ?_
         · rintro i k v tb ys σ H5 hi VY ⟨v7,rfl,rfl,e4,e5⟩
           obtain⟨y,hy,rfl⟩:=DJ hd2 hi
           refine⟨_,rfl,_,rfl,h,_,rfl,jb.t (k:=nk y) (VX RB.symm e1) VY,_,rfl,?_⟩
           rw[keys_has e2 y,take_snoc hy,aay]
           by_cases hm:y∈S
           · rw[VE hm]
             refine jU ⟨_,rfl,rfl,by omega,?_⟩
             rw[X_ (by simpa using hm),aaL,aaF]
             exact e5
           · rw[aaa hm]
             refine lU ⟨_,rfl,_,rfl,rfl,L3,?_⟩
             rw[XU (by simpa using hm),aaL]
             exact iG e5 ⟨tb,rfl,VY⟩
         · rintro ys σ H5 ⟨v7,rfl,rfl,e4,e5⟩ p hp
           rw[rM hd2,aai] at e5
           have Rw:p≠ad x:=fun z=>by rw[z,b_] at hp;cases hp
           have RC:H4 p=none:=by rw[de Rw] at hp;exact hp
           refine⟨ad x,o,_,by rw[de Rw.symm];exact b_,uz,?_⟩
           rw[Bw VW Rw]
           have pm:Paired (lr H4) ys (Dg sf S x):=Paired.kO e5 fun v y ⟨tb,e,z⟩=>⟨tb,e,by
             have:tb≠ad x:=fun w=>by rw[w,b_] at z;cases z
             rwa [de this] at z⟩
           have s7:gg H4 (L2.upd H4 p (.lst ys)):=(gg.refl H4).new RC
           have Ph:ys.length=(Dg sf S x).length:=Paired.length pm
           refine⟨_,rfl,!ys.isEmpty,.inl ⟨_,g_.of b_,rfl⟩,?_⟩
           rcases Mm with⟨_,Tq,r⟩|⟨_,Tq,r⟩
           ·
             have:ys=[]:=aaG.mp (by rw[Ph,Tq];rfl)
             subst this
             refine jU ?_
             have Ce:=BC.mp Tq
             refine⟨_,rfl,_,rfl,st,.ref (ad x),rfl,?_,_,rfl,ad x,h,sf x,kvs,af,rfl,⟨dk,s7 _ _ VW,hd2⟩,RB,s7 _ _ e1,fun y hy=>?_,Ry x,fun y hy=>?_,fun p2 H6 rs s8 zZ Q_ nd2 hm2=>?_⟩
             · have:=jb.t (k:=nk x) (s7 _ _ (s6 _ _ LF)) (s7 _ _ Pe)
               rw[Rx x Tp] at this
               exact this
             · obtain⟨bb,z1,z2,z3,Oo,z4,z5⟩:=e3 y (Ce y hy)
               exact⟨bb,z1,(gc VV z3).symm,Oo,s7 _ _ z4,z5⟩
             · obtain⟨z1,z2,z3⟩:=good y (Ce y hy)
               have:=len_sub (ys:=ls.map (·.nm)) z2 fun m hm=>(cl.ah ((z3 m).mp hm)).1
               rw[Ro] at this;omega
             · have s9:=s7.trans s8
               have hSl:S.length≤4000:=by
                 have:=len_sub (ys:=ls.map (·.nm)) VU fun m hm=>(good m hm).1
                 rw[Ro] at this;omega
               have e6:H6 h=some (.dT kvs):=s9 _ _ e1
               refine⟨_,rfl,_,rfl,h,_,rfl,mY.t (k:=nk x) e6 (s9 _ _ Pe) (by rw[rM e2];omega),?_⟩
               have RD:p2≠h:=(gc (s7 _ _ e1) zZ).symm
               have VZ:H1 p2=none:=(s6.trans s7).free zZ
               have key:putK kvs (nk x) (V.ref p2)=kvs++[(nk x,V.ref p2)]:=CZ _ (DH (by rw[e2];exact fun z=>Ml (rK.mp z)))
               have hhT:H1 h=none:=hh
               refine⟨_,_,sk,S++[x],fun y=>if y=x then rs else af y,HA,rfl,r,(s6.trans s9).upd hhT,?_,?_,⟨⟨_,b_,?_,fun y hy=>?_⟩,?_,fun y hy=>?_⟩,RA,?_,fun y hy=>aap _ (hS y hy)⟩
               · rw[de (i_ (s9 _ _ Pg) e6 (fun z=>by cases z))];exact s9 _ _ Pg
               · exact Paired.kO p4 fun _ _ z=>(z.same s9).upd e6 (fun _ z=>by cases z)
               · rw[key,aaq,e2,aaq];rfl
               · show ∃bb,iS (putK kvs (nk x) (V.ref p2)) (nk y)=some (V.ref bb)∧bb≠h∧H1 bb=none∧Al _ bb (if y=x then rs else af y)
                 rw[j8]
                 by_cases e:y=x
                 · subst e
                   rw[aar rfl,aar rfl]
                   obtain⟨Oo,w1,w2⟩:=Q_
                   exact⟨p2,rfl,RD,VZ,Oo,by rw[de RD];exact w1,w2⟩
                 · rw[aak (fun z=>e (oT z)),aak e]
                   have hyS:y∈S:=(XW.mp hy).elim id fun z=>absurd (UK.mp z) e
                   obtain⟨bb,z1,z2,z3,Oo,z4,z5⟩:=e3 y hyS
                   exact⟨bb,z1,z2,z3,Oo,by rw[de z2];exact s9 _ _ z4,z5⟩
               · rw[aaO]
                 exact⟨VU,by simp,fun u hu w hw z=>Ml (by rw[UK.mp hw] at z;have z:u=x:=z;exact z▸hu)⟩
               · show y∈ls.map (·.nm)∧(if y=x then rs else af y).Nodup∧∀m,m∈(if y=x then rs else af y)↔Ah ls m y
                 by_cases e:y=x
                 · subst e
                   rw[aar rfl]
                   refine⟨Tp,nd2,fun m=>?_⟩
                   rw[hm2 m,Ah.last]
                   constructor
                   · rintro⟨u,hu,z⟩
                     have Tj:=((Ot y).2 u).mp hu
                     rcases z with z|z
                     · exact .inl (z▸Tj)
                     · exact .inr ⟨u,((good u (Ce u hu)).2.2 m).mp z,Tj⟩
                   · rintro(z|⟨u,z1,z2⟩)
                     · exact⟨m,((Ot y).2 m).mpr z,.inl rfl⟩
                     · have hu:=((Ot y).2 u).mpr z2
                       exact⟨u,hu,.inr (((good u (Ce u hu)).2.2 m).mpr z1)⟩
                 · rw[aak e]
                   exact good y ((XW.mp hy).elim id fun z=>absurd (UK.mp z) e)
               · exact Me.elim (fun z=>(XY.mp z).elim (fun z=>.inr (by rw[z];simp)) .inl) fun z=>.inr (aap _ z)
           ·
             have hys:(!ys.isEmpty)=true:=by
               cases ys with
               | nil=>exact absurd (aaG.mp Ph.symm) Tq
               | cons _ _=>rfl
             refine Iy hys ?_
             have Ee:=FL r
             rw[VJ,aa7,aae] at Ee
             have Tr:=s7 _ _ Pg
             refine⟨_,rfl,.inl ⟨rfl,_,g_.of Tr⟩,_,rfl,c,_,_,rfl,rfl,Tr,by omega,?_⟩
             have hpc:p≠c:=(gc Pg RC).symm
             refine⟨_,rfl,.inl ⟨rfl,_,g_.of b_⟩,_,rfl,c,p,_,_,rfl,rfl,b_,by rw[de hpc];exact b_,by rw[VJ];show HA.length+1+ys.length≤_;omega,?_⟩
             refine⟨_,_,(Dg sf S x).reverse++x::sk,S,af,_,rfl,r,((s6.trans s7).upd Ou).upd Ou,b_,?_,((D4.same s7).lst Tr).lst b_,fun y hy=>?_,?_,hS⟩
             · rw[List.reverse_append,List.reverse_reverse,List.reverse_cons]
               refine Paired.kO (F:=lr (L2.upd H4 p (.lst ys))) (tO (iG (Paired.kO p4 fun _ _ z=>z.same s7) ⟨t,rfl,s7 _ _ Pe⟩) (Paired.kO pm fun _ _ z=>z.same s7)) fun _ _ z=>?_
               exact(z.upd Tr (fun _ z=>by cases z)).upd b_ (fun _ z=>by cases z)
             · rcases XW.mp hy with hy|hy
               · have hy:=(aao.mp (List.mem_reverse.mp hy)).1
                 exact(cl.sa (((Ot x).2 y).mp hy)).1
               · exact VT y hy
             · exact Me.elim (fun z=>.inl (aaD _ z)) .inr
   · rintro σ H2 ⟨v3,v4,v5,v6,S,af,rfl,s3,⟨⟨kvs,e1,e2,e3⟩,VU,good⟩,hS⟩
     rw[Ro,hlen,aai] at hS
     refine⟨_,rfl,q h _ (s1.trans s3) (s1.free hh) ⟨kvs,e1,fun n hn=>?_⟩⟩
     obtain⟨l,hl,rfl⟩:=aaA.mp hn
     obtain⟨bb,z1,z2,z3,dk,z4,z5⟩:=e3 _ (hS l hl)
     exact⟨bb,dk,z1,z4,fun m=>by rw[sj,z5,rK];exact(good _ (hS l hl)).2.2 m⟩
end
theorem Jj{κ:Type}[DecidableEq κ]:∀{kvs:List (κ×V)} {i:Nat} {k:κ} {v:V},(kvs.map (·.1)).Nodup→kvs[i]?=some (k,v)→iS kvs k=some v
 | [],_,_,_,_,h=>by simp at h
 | p::r,i,k,v,nd,h=>by
   rw[aas,aaK] at nd
   cases i with
   | zero=>simp at h;subst h;exact jm rfl
   | succ i=>
     have h:r[i]?=some (k,v):=by simpa using h
     have hm:k∈r.map (·.1):=aaA.mpr ⟨_,UT h,rfl⟩
     rw[jg (fun z=>nd.1 (by rw[z];exact hm))]
     exact Jj nd.2 h
theorem Jk{κ:Type}[DecidableEq κ](kvs:List (κ×V))(k j:κ)(h:j≠k):iS (jT kvs k) j=iS kvs j:=by
 induction kvs with
 | nil=>rfl
 | cons p r ih=>
   by_cases e:p.1=k
   · rw[vg e,ih,jg (fun z=>h (z.symm.trans e))]
   · rw[vj e]
     by_cases e2:p.1=j
     · rw[jm e2,jm e2]
     · rw[jg e2,jg e2,ih]
theorem G1{kvs:List (List Key×V)}{rem:List Ln}{n:Nm}(h:kvs.map (·.1)=rem.map fun l=>nk l.nm):(jT kvs (nk n)).map (·.1)=(rem.filter fun o=>o.nm≠n).map fun l=>nk l.nm:=by
 induction kvs generalizing rem with
 | nil=>cases rem with|nil=>rfl|cons _ _=>cases h
 | cons p r ih=>
   cases rem with
   | nil=>cases h
   | cons x t=>
     rw[aas,aas] at h
     injection h with h1 h2
     by_cases e:x.nm=n
     · rw[vg (by rw[h1,e]),X_ (by simpa using e)]
       exact ih h2
     · rw[vj (fun z=>e (oT (h1.symm.trans z))),XU (by simpa using e),aas,aas,ih h2,h1]
structure Wait(kw:List (List Key×V))(rem:List Ln)(f:Ln→Nat):Prop where
 keys:kw.map (·.1)=rem.map fun l=>nk l.nm
 val:∀o∈rem,iS kw (nk o.nm)=some (.int (f o:Nat))
theorem Wait.len{kw:List (List Key×V)}{rem:List Ln}{f:Ln→Nat}(w:Wait kw rem f):kw.length=rem.length:=by
 have:=aaW List.length w.keys
 rwa [Ro,Ro] at this
theorem NB{rem:List Ln}:(rem.map fun l=>nk l.nm)=(rem.map (·.nm)).map nk:=by rw[List.map_map];rfl
theorem Qu{xs:List Nm}(h:xs.Nodup):(xs.map nk).Nodup:=by
 induction xs with
 | nil=>exact aa6
 | cons x r ih=>
   rw[aaK] at h
   rw[aas,aaK]
   exact⟨fun z=>h.1 (rK.mp z),ih h.2⟩
theorem Wait.nd{kw:List (List Key×V)}{rem:List Ln}{f:Ln→Nat}(w:Wait kw rem f)(h:(rem.map (·.nm)).Nodup):(kw.map (·.1)).Nodup:=by rw[w.keys,NB];exact Qu h
theorem Wait.get{kw:List (List Key×V)}{rem:List Ln}{f:Ln→Nat}(w:Wait kw rem f)(h:(rem.map (·.nm)).Nodup){i:Nat}{k:List Key}{v:V}(hi:kw[i]?=some (k,v)):∃o,rem[i]?=some o∧k=nk o.nm∧v=.int (f o:Nat):=by
 have h1:(kw.map (·.1))[i]?=some k:=by rw[aah,hi];rfl
 rw[w.keys,aah] at h1
 obtain⟨o,e,e2⟩:=aaC.mp h1
 refine⟨o,e,e2.symm,?_⟩
 have h2:=Jj (w.nd h) hi
 rw[←e2,w.val o (UT e)] at h2
 exact(aau h2).symm
section
variable{P:Program}{w:World}{K:PySem.W.Frag}{mg:Str→Option Value}{base:Heap}{A:Ad}
def UY:Sp:=fun vs H Q _=>∃(d:Addr)(kw:List (List Key×V))(rem:List Ln)(f:Ln→Nat)(l:Ln),vs=[.ref d]∧H d=some (.dT kw)∧Wait kw rem f∧(rem.map (·.nm)).Nodup∧rem.find? (fun o=>f o ==0)=some l∧∀t,H t=some (nT l.nm)→Q (.ref t) H
theorem Am(T:Txt mg)(O:Ok K mg A):iw P w K mg base m_ 1 A.uF A.uG ["waiting"] UY:=by
 refine O.ze.f.ok sM (fun vs H Q E h=>?_) (fun jL A0 outer s H vs Q E hr h=>?_)
 · obtain⟨d,kw,rem,f,l,rfl,_⟩:=h
   rfl
 · obtain⟨d,kw,rem,f,l,rfl,hd,W,nd,hf,q⟩:=h
   refine⟨_,(c_ (x9 (iL PassesOwn.never rfl (yN (pv 0)) (gr (i:=1) sM.nd rfl (Or.inl rfl)) (e_ (iF (ij me (i3 (by exact il hr) (pv 0) (pv 1) (fun _ _=>rfl)) f_ (iD _)) (e_ (h_ (pv 1))) ib))))
     (e_ (h_ sZ))),?_⟩
   refine Hw ?_;intro _
   refine⟨_,rfl,d,kw,rfl,hd,fun o uz=>?_⟩
   refine AS (d:=d) (o:=o) (kvs:=kw) (fun i σ H2=>∃(v:Option V),σ=[some (.ref d),v]∧H2=L2.upd H d (.mK o (.dT kw))∧(rem.drop i).find? (fun o=>f o ==0)=some l) ⟨none,rfl,rfl,hf⟩ (fun i σ H2 ⟨_,_,e,_⟩=>by subst e;exact b_) ?_ ?_
   · rintro i k v t σ H2 hi ht ⟨v0,rfl,rfl,h1⟩
     obtain⟨x,hx,rfl,rfl⟩:=W.get nd hi
     have lu:i<rem.length:=(Rt.mp hx).1
     have Ts:rem.drop i=x::rem.drop (i+1):=by rw[aaI lu];congr 1;exact(Rt.mp hx).2
     rw[Ts] at h1
     refine⟨_,rfl,_,rfl,d,_,rfl,.inr ⟨kw,nk x.nm,t,.inr ⟨o,b_⟩,rfl,ht,(W.val x (UT hx)).symm⟩,rfl,_,rfl,?_⟩
     refine ku (fun h=>?_) (fun h=>?_)
     · have h:f x=0:=by have:=V.int.inj (aam h);omega
       rw[List.find?_cons_of_pos (by simpa using h)] at h1
       cases h1
       refine⟨_,rfl,d,o,_,b_,uz,?_⟩
       rw[vz hd]
       exact q t (by
                     have:t≠d:=fun z=>by rw[z,b_] at ht;cases ht
                     rwa [de this] at ht)
     · have h:¬f x=0:=fun z=>h (VE (by rw[z];rfl))
       rw[List.find?_cons_of_neg (by simpa using h)] at h1
       exact⟨_,rfl,rfl,h1⟩
   · rintro σ H2 ⟨v0,rfl,rfl,h1⟩
     rw[W.len,abT] at h1
     cases h1
end
section
open Classical
noncomputable def n9(lt:Nm→Nm→Prop)(rem:List Ln)(l:Ln):Nat:=(rem.filter fun o=>decide (lt o.nm l.nm)).length
theorem Jl(lt:Nm→Nm→Prop)(rem:List Ln):(fun o=>n9 lt rem o ==0)=free lt rem:=by
 funext o
 unfold n9 free
 rw[abg,abF,aaG,abG,decide_eq_true_iff]
 exact⟨fun h x hx=>by simpa using h x hx,fun h x hx=>by simpa using h x hx⟩
theorem Jm{lt:Nm→Nm→Prop}{rem:List Ln}(nd:(rem.map (·.nm)).Nodup){l:Ln}(hl:l∈rem)(o:Ln):n9 lt rem o=n9 lt (rem.filter fun x=>x.nm≠l.nm) o+if lt l.nm o.nm then 1 else 0:=by
 unfold n9
 induction rem with
 | nil=>cases hl
 | cons x r ih=>
   rw[aas,aaK] at nd
   rcases XY.mp hl with rfl|hl
   · have e:r.filter (fun x=>decide (x.nm≠l.nm))=r:=abB.mpr fun y hy=>VE fun z=>nd.1 (z▸aac hy)
     rw[X_ (p:=fun x:Ln=>decide (x.nm≠l.nm)) (by simp),e]
     by_cases h:lt l.nm o.nm
     · rw[XU (by simpa using h),aar h,aae]
     · rw[X_ (by simpa using h),aak h,Nat.add_zero]
   · have hx:x.nm≠l.nm:=fun z=>nd.1 (z▸aac hl)
     rw[XU (p:=fun x:Ln=>decide (x.nm≠l.nm)) (by simpa using hx)]
     by_cases h:lt x.nm o.nm
     · rw[XU (by simpa using h),XU (by simpa using h),aae,aae,ih nd.2 hl];omega
     · rw[X_ (by simpa using h),X_ (by simpa using h),ih nd.2 hl]
end
theorem Jn{lt:Nm→Nm→Prop}{n:Nat}{rem:List Ln}{l:Ln}(h:rem.find? (free lt rem)=some l):sJ lt (n+1) rem=l::sJ lt n (rem.filter fun o=>o.nm≠l.nm):=by
 rw[sJ,h]
section
variable{P:Program}{w:World}{K:PySem.W.Frag}{mg:Str→Option Value}{base:Heap}{A:Ad}
def Qv(A:Ad):Sp:=fun vs H Q _=>∃(a h:Addr)(ls al:List Ln),vs=[.ref a,.ref h]∧ql A H a ls∧BY H h al∧tX ls.length∧(ls.map (·.nm)).Nodup∧(∀l∈ls,l.nm∈al.map (·.nm))∧IV al∧
 ∀p H',gg H H'→H p=none→ql A H' p (rowOf (Ah al) ls)→Q (.ref p) H'
theorem G2(T:Txt mg)(O:Ok K mg A):iw P w K mg base m_ 2 A.DA A.DB ["lines","ahead"] (Qv A):=by
 have Cg:=Am (P:=P) (w:=w) (base:=base) T O
 refine O.Jd.f.ok lh (fun vs H Q E h=>?_) (fun jL A0 outer s H vs Q E hr h=>?_)
 · obtain⟨a,h,ls,al,rfl,_⟩:=h
   rfl
 · obtain⟨a,h,ls,al,rfl,⟨as,ha,pa⟩,⟨kh,RE,YR⟩,jK,nd,xT,tp,q⟩:=h
   have hlen:=Paired.length pa
   have xV:ls.length≤4000:=jK
   have sz:sizeLine=16777216:=aat
   have tpl:∃rk:Nm→Nat,∀m n,Ah al m n→rk m<rk n:=by obtain⟨rk,r⟩:=tp;exact⟨rk,fun m n z=>r.ah z⟩
   refine⟨_,(c_ (gs (i:=2) lh.nd rfl (Or.inl rfl) mf)
     (c_ (gs (i:=3) lh.nd rfl (Or.inl rfl) mf)
     (c_ (iL PassesOwn.never rfl (iq (pv 0)) (gr (i:=4) lh.nd rfl (Or.inr rfl)) (c_ (jB (by exact il hr) (pv 2) (gz (pv 4) rfl) (pv 4) rfl)
     (e_ (jB (by exact il hr) (pv 3) (gz (pv 4) rfl) (gA gm (by rfl) T.jw aan (a_ (yC Dj (fO ur).names [7] rfl (iq (pv 0)) rfl (by decide+kernel) (fun _ _ _ _=>(gr (i:=7) lh.nd rfl (Or.inl rfl))) (fun _ _ _ _=>⟨_,nG (jn (oP (by exact il hr) (gz (pv 7) rfl) (i3 (by exact il hr) (pv 1) (gz (pv 4) rfl) (fun _ _=>rfl)))),by(try simp only [iu]);rfl⟩) (fun _ _ _ _=>⟨_,(pv 7),by(try simp only [iu]);rfl⟩)) d_)) rfl))))
     (c_ (gs (i:=5) lh.nd rfl (Or.inl rfl) (iQ d_))
     (c_ (yi PassesOwn.never (GL (pv 3) (fun _=>rfl)) (c_ (gs (i:=6) lh.nd rfl (Or.inl rfl) (pN O.ze Cg hr (a_ (pv 3) d_)))
     (c_ (hZ (IP (by exact il hr) (pv 3) (pv 6) ⟨rfl,rfl,rfl,rfl⟩))
     (c_ (hZ (qA aaJ aaS aaT kG (pv 5) (a_ (i3 (by exact il hr) (pv 2) (pv 6) (fun _ _=>rfl)) d_)))
     (e_ (iL PassesOwn.never rfl (iq (rY (xE rfl) (by rfl) T.vR abm (a_ (pv 3) d_))) (gr (i:=7) lh.nd rfl (Or.inl rfl)) (e_ (iF (jn (oP (by exact il hr) (pv 6) (i3 (by exact il hr) (pv 1) (pv 7) (fun _ _=>rfl)))) (e_ (jB (by exact il hr) (pv 3) (pv 7) (gn ym (i3 (by exact il hr) (pv 3) (pv 7) (fun _ _=>rfl)) f_) rfl)) ib))))))))
     (e_ (h_ (pv 5)))))))),?_⟩
   refine Qe ?_;intro _ _ _ _ _
   intro bn RF wt Pj
   have s1:gg H (L2.upd (L2.upd H bn (.dT [])) wt (.dT [])):=((gg.refl H).new RF).new Pj
   have Ow:H wt=none:=((gg.refl H).new (o:=.dT []) RF).free Pj
   have RG:bn≠wt:=fun z=>by rw[z,b_] at Pj;cases Pj
   refine⟨_,rfl,a,rfl,⟨_,g_.of (s1 _ _ ha)⟩,i0 (K:=K) (a:=a) (xs:=as.map V.ref) (fun i σ H2=>∃(v4:Option V)(kb kw:List (List Key×V)),σ=[some (.ref a),some (.ref h),some (.ref bn),some (.ref wt),v4,none,none,none]∧gg H H2∧H2 bn=some (.dT kb)∧H2 wt=some (.dT kw)∧kb.length≤i∧(∀l∈ls.take i,∃b,iS kb (nk l.nm)=some (.ref b)∧mI A H b l)∧Wait kw (ls.take i) (n9 (Ah al) ls))
     ⟨none,[],[],rfl,s1,by rw[de RG];exact b_,b_,UU _,(fun l hl=>by rw[aa9] at hl;cases hl),⟨rfl,(fun l hl=>by rw[aa9] at hl;cases hl)⟩⟩ (fun i σ H2 _ ⟨_,_,_,_,s3,_⟩=>g_.of (s3 _ _ ha)) ?_ ?_⟩
   · rintro i v σ H2 hx ⟨v4,kb,kw,rfl,s3,h1,h2,h3,h4,W⟩
     obtain⟨b,hb,rfl⟩:=j7 hx
     obtain⟨l,hl,dx,vn,vu,vl,g1,⟨t,rfl,g2⟩,g3,g4⟩:=iC pa hb
     have Tt:l∈ls:=UT hl
     have hi:i<ls.length:=(Rt.mp hl).1
     have zx:∀x∈ls.take i,x.nm≠l.nm:=fun x hx z=>by
       obtain⟨j,hj⟩:=aaH.mp hx
       have Hn:j<i:=by have:=(Rt.mp hj).1;rw[aav] at this;omega
       rw[abo,aar Hn] at hj
       have e1:(ls.map (·.nm))[j]?=some l.nm:=by rw[aah,hj,←z];rfl
       have e2:(ls.map (·.nm))[i]?=some l.nm:=by rw[aah,hl];rfl
       have:=(abz (Rt.mp e1).1 nd).mp (e1.trans e2.symm)
       omega
     obtain⟨bb,dk,z1,z2,z3⟩:=YR l.nm (xT l Tt)
     have VC:=jv kb (nk l.nm) (V.ref b)
     refine⟨_,rfl,_,rfl,_,rfl,b,A.hG,dx,_,_,rfl,s3 _ _ g1,O.iR,O.hE,i5,bn,_,rfl,mY.t (k:=nk l.nm) h1 (s3 _ _ g2) (by omega),?_⟩
     have s4:gg H (L2.upd H2 bn (.dT (putK kb (nk l.nm) (V.ref b)))):=s3.upd RF
     have Lv:L2.upd H2 bn (.dT (putK kb (nk l.nm) (V.ref b))) bn=some (.dT (putK kb (nk l.nm) (V.ref b))):=b_
     have YS:L2.upd H2 bn (.dT (putK kb (nk l.nm) (V.ref b))) wt=some (.dT kw):=by rw[de RG.symm];exact h2
     generalize L2.upd H2 bn (.dT (putK kb (nk l.nm) (V.ref b)))=H3 at s4 Lv YS ⊢
     refine⟨_,rfl,a,rfl,⟨_,g_.of (s4 _ _ ha)⟩,jP (K:=K) (a:=a) (xs:=as.map V.ref) (by rw[Ro,hlen];omega) (fun j ys σ H4=>∃v7:Option V,σ=[some (.ref a),some (.ref h),some (.ref bn),some (.ref wt),some (.ref b),none,none,v7]∧H4=H3∧ys.length=n9 (Ah al) (ls.take j) l)
       ⟨none,rfl,rfl,rfl⟩ (fun j ys σ H4 _ ⟨_,_,e,e2⟩=>by subst e;exact⟨g_.of (s4 _ _ ha),by rw[e2];unfold n9;exact aab (aaB _ _) (by rw[aav];omega)⟩) ?_ ?_⟩
     · rintro j v ys σ H4 hx ⟨v7,rfl,rfl,e2⟩
       obtain⟨b2,Ox,rfl⟩:=j7 hx
       obtain⟨l2,JK,dx2,vn2,vu2,vl2,k1,⟨t2,rfl,k2⟩,k3,k4⟩:=iC pa Ox
       refine⟨_,rfl,b2,A.hG,dx2,_,_,rfl,s4 _ _ k1,O.iR,O.hE,i5,_,rfl,_,rfl,b,A.hG,dx,_,_,rfl,s4 _ _ g1,O.iR,O.hE,i5,h,.ref bb,rfl,?_,bb,_,rfl,jb.t (k:=nk l2.nm) (s4 _ _ z2) (s4 _ _ k2),_,rfl,?_⟩
       · have:=jb.t (k:=nk l.nm) (s4 _ _ RE) (s4 _ _ g2)
         rw[z1] at this
         exact this
       · unfold n9 at e2 ⊢
         rw[take_snoc JK,aay,VJ]
         by_cases hm:Ah al l2.nm l.nm
         · rw[(z3 l2.nm).mpr hm]
           refine lU ⟨_,rfl,_,rfl,rfl,?_⟩
           rw[XU (by simpa using hm),aaL,VJ,e2];rfl
         · rw[abj.mpr fun z=>hm ((z3 l2.nm).mp z)]
           refine jU ⟨_,rfl,rfl,?_⟩
           rw[X_ (by simpa using hm),aaL,e2];rfl
     · rintro ys σ H4 ⟨v7,rfl,rfl,e2⟩ p hp
       rw[Ro,hlen,aai] at e2
       have s5:=s4.new (o:=.lst ys) hp
       have Md:=W.len
       rw[aav] at Md
       refine⟨p,_,rfl,.inl (g_.of b_),_,rfl,_,rfl,b,A.hG,dx,_,_,rfl,s5 _ _ g1,O.iR,O.hE,i5,wt,_,rfl,mY.t (k:=nk l.nm) (iE hp YS) (s5 _ _ g2) (by omega),?_⟩
       refine⟨_,_,_,rfl,s5.upd Ow,by rw[de RG];exact iE hp Lv,b_,by omega,fun x hx=>?_,⟨?_,fun x hx=>?_⟩⟩
       · rw[take_snoc hl] at hx
         rcases XW.mp hx with hx|hx
         · obtain⟨c,c1,c2⟩:=h4 x hx
           exact⟨c,by rw[j8,aak (fun z=>zx x hx (oT z))];exact c1,c2⟩
         · rw[UK.mp hx]
           exact⟨b,by rw[j8,aar rfl],dx,_,vu,vl,g1,⟨t,rfl,g2⟩,g3,g4⟩
       · rw[pK,W.keys,take_snoc hl,aaq]
         exact aak fun z=>by
           obtain⟨x,hx,e⟩:=aaA.mp z
           exact zx x hx (oT e)
       · rw[take_snoc hl] at hx
         rw[j8]
         rcases XW.mp hx with hx|hx
         · rw[aak (fun z=>zx x hx (oT z))];exact W.val x hx
         · rw[UK.mp hx,aar rfl,e2]
   · rintro σ H2 ⟨v4,kb,kw,rfl,s3,h1,h2,h3,h4,W⟩
     have el:(as.map V.ref).length=ls.length:=by rw[Ro];exact hlen
     rw[el,aai] at h4 W
     refine⟨L2.jK,fun r sv=>?_⟩
     have YT:H r=none:=s3.free sv
     have hrb:bn≠r:=gc h1 sv
     have RH:wt≠r:=gc h2 sv
     obtain⟨rk,Oj⟩:=tpl
     refine⟨fun m σ H3=>∃(v6 v7:Option V)(kw:List (List Key×V))(rem row:List Ln)(rs:List Addr),m=rem.length∧σ=[some (.ref a),some (.ref h),some (.ref bn),some (.ref wt),v4,some (.ref r),v6,v7]∧gg H H3∧H3 bn=some (.dT kb)∧H3 wt=some (.dT kw)∧H3 r=some (.lst (rs.map V.ref))∧Paired (mI A H) rs row∧Wait kw rem (n9 (Ah al) rem)∧rem.Sublist ls∧row.length+rem.length=ls.length∧row++sJ (Ah al) rem.length rem=rowOf (Ah al) ls,
       ⟨ls.length,none,none,kw,ls,[],[],rfl,rfl,s3.new sv,iE sv h1,iE sv h2,b_,.nil,W,aaw _,by simp,rfl⟩,?_⟩
     rintro m σ H3 ⟨v6,v7,kw,rem,row,rs,rfl,rfl,s4,b1,w1,r1,pr,W,sub,hsum,D5⟩
     have Tu:(rem.map (·.nm)).Nodup:=(sub.map _).nodup nd
     refine⟨_,rfl,wt,kw,rfl,w1,?_⟩
     have Md:=W.len
     cases rem with
     | nil=>
       have:kw=[]:=aaG.mp Md
       subst this
       refine jU ⟨_,rfl,q r _ s4 YT ⟨rs,r1,?_⟩⟩
       rw[show sJ (Ah al) ([]:List Ln).length []=[] from rfl,aaF] at D5
       rw[←D5]
       exact Paired.kO pr fun _ _ z=>z.same s4
     | cons x0 V0=>
       generalize V1:x0::V0=rem at *
       have sX:rem≠[]:=by rw[←V1];exact fun z=>by cases z
       obtain⟨l,JR⟩:=wF (lt:=Ah al) Oj rem sX
       have Oy:l∈rem:=List.mem_of_find?_eq_some JR
       have Tv:l∈ls:=sub.subset Oy
       have Mn:=o9 Tu Oy
       refine Iy (by cases kw with|nil=>exact absurd (aaG.mp Md.symm) sX|cons _ _=>rfl) ?_
       refine⟨fun σ H4=>∃(v6 v7:Option V)(kw:List (List Key×V))(lR row:List Ln)(rs:List Addr),lR.length<rem.length∧σ=[some (.ref a),some (.ref h),some (.ref bn),some (.ref wt),v4,some (.ref r),v6,v7]∧gg H H4∧H4 bn=some (.dT kb)∧H4 wt=some (.dT kw)∧H4 r=some (.lst (rs.map V.ref))∧Paired (mI A H) rs row∧Wait kw lR (n9 (Ah al) lR)∧lR.Sublist ls∧row.length+lR.length=ls.length∧row++sJ (Ah al) lR.length lR=rowOf (Ah al) ls,
         fun σ' H' ⟨u6,u7,RI,lR,V2,rs2,lu,z⟩=>⟨lR.length,lu,u6,u7,RI,lR,V2,rs2,rfl,z⟩,?_⟩
       refine⟨_,rfl,wt,kw,rem,n9 (Ah al) rem,l,rfl,w1,W,Tu,by rw[Jl];exact JR,fun t ht=>?_⟩
       have Cf:=W.val l Oy
       refine⟨_,rfl,wt,rfl,.inr ⟨_,.inl w1⟩,_,rfl,t,kw,nk l.nm,_,rfl,w1,ht,Cf,?_⟩
       have s5:gg H (L2.upd H3 wt (.dT (jT kw (nk l.nm)))):=s4.upd Ow
       have b2:L2.upd H3 wt (.dT (jT kw (nk l.nm))) bn=some (.dT kb):=by rw[de RG];exact b1
       have r2:L2.upd H3 wt (.dT (jT kw (nk l.nm))) r=some (.lst (rs.map V.ref)):=by rw[de RH.symm];exact r1
       have t2:L2.upd H3 wt (.dT (jT kw (nk l.nm))) t=some (nT l.nm):=by rw[de (i_ ht w1 (fun z=>by cases z))];exact ht
       have w2:L2.upd H3 wt (.dT (jT kw (nk l.nm))) wt=some (.dT (jT kw (nk l.nm))):=b_
       have W2:Wait (jT kw (nk l.nm)) (rem.filter fun o=>o.nm≠l.nm) (n9 (Ah al) rem):=⟨G1 W.keys,fun o ho=>by
         have n_:=aao.mp ho
         rw[Jk _ _ _ (fun z=>by have:=oT z;simpa[this] using n_.2)]
         exact W.val o n_.1⟩
       generalize L2.upd H3 wt (.dT (jT kw (nk l.nm)))=H4 at s5 b2 r2 t2 w2 ⊢
       generalize jT kw (nk l.nm)=RI at w2 W2
       obtain⟨bl,Mg,hLn⟩:=h4 l Tv
       have V3:=Paired.length pr
       refine⟨_,rfl,.inl ⟨rfl,_,g_.of r2⟩,_,rfl,_,rfl,bn,.ref bl,rfl,?_,r,_,_,rfl,rfl,r2,by rw[Ro,V3];omega,?_⟩
       · have:=jb.t (k:=nk l.nm) b2 t2
         rw[Mg] at this
         exact this
       have s6:gg H (L2.upd H4 r (.lst (rs.map V.ref++[V.ref bl]))):=s5.upd YT
       have b3:L2.upd H4 r (.lst (rs.map V.ref++[V.ref bl])) bn=some (.dT kb):=by rw[de hrb];exact b2
       have w3:L2.upd H4 r (.lst (rs.map V.ref++[V.ref bl])) wt=some (.dT RI):=by rw[de RH];exact w2
       have t3:L2.upd H4 r (.lst (rs.map V.ref++[V.ref bl])) t=some (nT l.nm):=by rw[de (i_ t2 r2 (fun z=>by cases z))];exact t2
       have r3:L2.upd H4 r (.lst (rs.map V.ref++[V.ref bl])) r=some (.lst ((rs++[bl]).map V.ref)):=by rw[b_,aaq];rfl
       generalize L2.upd H4 r (.lst (rs.map V.ref++[V.ref bl]))=H5 at s6 b3 w3 t3 r3 ⊢
       have Gf:(rem.filter fun o=>o.nm≠l.nm).Sublist rem:=aaN
       generalize hR:(rem.filter fun o=>decide (o.nm≠l.nm))=lR at W2 Gf Mn
       have RJ:(lR.map (·.nm)).Nodup:=(Gf.map _).nodup Tu
       refine⟨_,rfl,wt,RI,rfl,w3,fun p bs hp YU=>?_⟩
       have s7:=s6.new (o:=.lst (bs.map V.ref)) hp
       have V4:=Paired.length YU
       have Q_:=W2.len
       refine⟨p,rfl,⟨_,g_.of b_⟩,i0 (K:=K) (a:=p) (xs:=bs.map V.ref) (fun j σ H6=>∃(v7:Option V)(JS:List (List Key×V)),σ=[some (.ref a),some (.ref h),some (.ref bn),some (.ref wt),v4,some (.ref r),some (.ref t),v7]∧gg H H6∧H6 bn=some (.dT kb)∧H6 wt=some (.dT JS)∧H6 t=some (nT l.nm)∧H6 r=some (.lst ((rs++[bl]).map V.ref))∧H6 p=some (.lst (bs.map V.ref))∧(∀b∈bs,∀xs,H5 b=some (.tup xs)→H6 b=some (.tup xs))∧JS.map (·.1)=lR.map (fun l=>nk l.nm)∧∀(i:Nat)(o:Ln),lR[i]?=some o→iS JS (nk o.nm)=some (.int ((if i<j then n9 (Ah al) lR o else n9 (Ah al) rem o:Nat):Int)))
         ⟨v7,RI,rfl,s7,iE hp b3,iE hp w3,iE hp t3,iE hp r3,b_,fun b _ xs e=>iE hp e,W2.keys,fun i o ho=>by rw[aak (by omega)];exact W2.val o (UT ho)⟩ (fun j σ H6 _ ⟨_,_,_,_,_,_,_,_,e,_⟩=>g_.of e) ?_ ?_⟩
       · rintro j v σ H6 hx ⟨v7,JS,rfl,s8,b4,w4,t4,r4,p4,LG,Bg,JT⟩
         obtain⟨c,hc,rfl⟩:=j7 hx
         obtain⟨⟨k,v⟩,hkv,V5⟩:=lj YU hc
         obtain⟨o,ho,rfl,rfl⟩:=W2.get RJ hkv
         have Oz:o∈rem:=Gf.subset (UT ho)
         have V6:H6 c=some (nT o.nm):=LG c (UT hc) _ V5
         obtain⟨bb,dk,z1,z2,z3⟩:=YR o.nm (xT o (sub.subset Oz))
         have Bf:=Jm (lt:=Ah al) Tu Oy o
         have YV:∀(RK:List (List Key×V)),RK.map (·.1)=lR.map (fun l=>nk l.nm)→(∀x∈lR,x.nm≠o.nm→iS RK (nk x.nm)=iS JS (nk x.nm))→iS RK (nk o.nm)=some (.int ((n9 (Ah al) lR o:Nat):Int))→∀(i:Nat)(x:Ln),lR[i]?=some x→iS RK (nk x.nm)=some (.int ((if i<j+1 then n9 (Ah al) lR x else n9 (Ah al) rem x:Nat):Int)):=fun RK _ h1 h2 i x RL=>by
           by_cases e:i=j
           · subst e
             rw[ho] at RL
             cases RL
             rw[aar (abR _)]
             exact h2
           · have V7:x.nm≠o.nm:=fun z=>by
               have e1:(lR.map (·.nm))[i]?=some o.nm:=by rw[aah,RL,←z];rfl
               have e2:(lR.map (·.nm))[j]?=some o.nm:=by rw[aah,ho];rfl
               exact e ((abz (Rt.mp e1).1 RJ).mp (e1.trans e2.symm))
             rw[h1 x (UT RL) V7,JT i x RL]
             by_cases VH:i<j
             · rw[aar VH,aar (by omega)]
             · rw[aak VH,aak (by omega)]
         rw[hR] at Bf
         refine⟨_,rfl,_,rfl,_,rfl,h,.ref bb,rfl,?_,bb,_,rfl,jb.t (k:=nk l.nm) (s8 _ _ z2) t4,_,rfl,?_⟩
         · have:=jb.t (k:=nk o.nm) (s8 _ _ RE) V6
           rw[z1] at this
           exact this
         by_cases hm:Ah al l.nm o.nm
         · rw[(z3 l.nm).mpr hm]
           rw[aar hm] at Bf
           refine lU ?_
           have RM:=JT j o ho
           rw[aak (aa_ _)] at RM
           have hg:jb H6 wt (.ref c) (some (.int ((n9 (Ah al) rem o:Nat):Int))):=by
             have:=jb.t (k:=nk o.nm) w4 V6
             rw[RM] at this
             exact this
           have hk3:JS.length=lR.length:=by have:=aaW List.length Bg;rwa [Ro,Ro] at this
           refine⟨_,rfl,_,rfl,wt,_,rfl,hg,_,_,rfl,rfl,_,rfl,_,rfl,wt,_,rfl,mY.t (k:=nk o.nm) w4 V6 (by omega),?_⟩
           have kk:(putK JS (nk o.nm) (V.int ((n9 (Ah al) rem o:Nat)-1))).map (·.1)=lR.map (fun l=>nk l.nm):=by
             rw[pK,Bg]
             exact aar (aaA.mpr ⟨o,UT ho,rfl⟩)
           refine⟨_,_,rfl,s8.upd Ow,by rw[de RG];exact b4,b_,by rw[de (i_ t4 w4 (fun z=>by cases z))];exact t4,by rw[de RH.symm];exact r4,by rw[de (i_ p4 w4 (fun z=>by cases z))];exact p4,fun b hb xs e=>?_,kk,YV _ kk (fun x _ V7=>?_) ?_⟩
           · have:=LG b hb xs e
             rw[de (i_ this w4 (fun z=>by cases z))];exact this
           · rw[j8,aak (fun z=>V7 (oT z))]
           · rw[j8,aar rfl]
             have e9:((n9 (Ah al) rem o:Nat):Int)-1=((n9 (Ah al) lR o:Nat):Int):=by omega
             exact aaW (fun z=>some (V.int z)) e9
         · rw[abj.mpr fun z=>hm ((z3 l.nm).mp z)]
           rw[aak hm] at Bf
           refine jU ⟨_,JS,rfl,s8,b4,w4,t4,r4,p4,LG,Bg,YV JS Bg (fun x _ _=>rfl) ?_⟩
           have RM:=JT j o ho
           rw[aak (aa_ _)] at RM
           rw[RM,Bf,Nat.add_zero]
       · rintro σ H6 ⟨v7,JS,rfl,s8,b4,w4,t4,r4,p4,LG,Bg,JT⟩
         have hlen2:(bs.map V.ref).length=lR.length:=by rw[Ro,←V4,Q_]
         refine⟨_,_,JS,lR,row++[l],rs++[bl],by omega,rfl,s8,b4,w4,r4,iG pr hLn,⟨Bg,fun o ho=>?_⟩,Gf.trans sub,by rw[VJ];show row.length+1+lR.length=_;omega,?_⟩
         · obtain⟨i,hi⟩:=aaH.mp ho
           have O_:=(Rt.mp hi).1
           rw[JT i o hi,aar (by omega)]
         · rw[←D5,←Mn,Jn JR,aaM,hR]
           rfl
end
end PK
namespace Kp
open PySem L2
noncomputable abbrev SW:Stmt:=PK.oR
noncomputable abbrev SX:Stmt:=PK.p0
noncomputable abbrev UZ:Stmt:=PK.p5
noncomputable abbrev L4:Stmt:=PK.EO
structure Txt(mg:Str→Option Value):Prop where
 len:mg "len"=none
 range:mg "range"=none
 max:mg "max"=none
abbrev gi(l:List Str):List V:=l.map V.str
def tab(old new:List Str)(i:Nat):List V:=(List.range (new.length+1)).map fun j=>V.int (K01.vC old new i j)
theorem B0{old new:List Str}{i j:Nat}(h:j≤new.length):(tab old new i)[j]?=some (V.int (K01.vC old new i j)):=by
 unfold tab
 rw[aah,List.getElem?_range (by omega)]
 rfl
def part(old new:List Str)(i k:Nat):List V:=(List.range (new.length+1)).map fun j=>if new.length-k≤j then V.int (K01.vC old new i j) else V.int 0
theorem FN{old new:List Str}{i k j:Nat}(h:j≤new.length)(hk:new.length-k≤j):(part old new i k)[j]?=some (V.int (K01.vC old new i j)):=by
 unfold part
 rw[aah,List.getElem?_range (by omega)]
 show some (if _ then _ else _)=_
 rw[aar hk]
theorem zj(old new:List Str)(i k:Nat):(part old new i k).length=new.length+1:=by unfold part;rw[Ro,abP]
theorem Jo(old new:List Str)(i:Nat):part old new i new.length=tab old new i:=by
 unfold part tab
 refine abA fun j _=>?_
 rw[aar (by omega)]
theorem A6(old new:List Str)(i n:Nat)(h:n=new.length+1):(List.replicate n [V.int 0]).flatten=part old new i 0:=by
 subst h
 refine List.ext_getElem? fun j=>?_
 unfold part
 rw[aah]
 have e:(List.replicate (new.length+1) [V.int 0]).flatten=List.replicate (new.length+1) (V.int 0):=by
   generalize new.length+1=m
   induction m with
   | zero=>rfl
   | succ m ih=>rw[aa1,abw,ih,aa1];rfl
 rw[e,List.getElem?_replicate]
 by_cases hj:j<new.length+1
 · rw[aar hj,List.getElem?_range hj]
   show some _=some (if _ then _ else _)
   by_cases h2:new.length-0≤j
   · rw[aar h2,K01.x_ (.inr (by omega))];rfl
   · rw[aak h2]
 · rw[aak hj,abf.mpr (by rw[abP];omega)]
   rfl
theorem DN{old new:List Str}{i k:Nat}(h:k<new.length):(part old new i k).set (new.length-1-k) (V.int (K01.vC old new i (new.length-1-k)))=part old new i (k+1):=by
 refine List.ext_getElem? fun j=>?_
 by_cases e:j=new.length-1-k
 · subst e
   rw[aa4 (by rw[zj];omega),FN (by omega) (by omega)]
 · rw[abb (fun z=>e z.symm)]
   unfold part
   rw[aah,aah]
   by_cases hj:j<new.length+1
   · rw[List.getElem?_range hj]
     show some (if _ then _ else _)=some (if _ then _ else _)
     by_cases h2:new.length-k≤j
     · rw[aar h2,aar (by omega)]
     · rw[aak h2,aak (by omega)]
   · rw[abf.mpr (by rw[abP];omega)]
     rfl
theorem oj{l:List Str}{j:Nat}{x:Str}(h:l[j]?=some x):(gi l)[j]?=some (V.str x):=by rw[aah,h];rfl
section
variable{P:Program}{w:World}{K:PySem.W.Frag}{mg:Str→Option Value}{base:Heap}
theorem NC:gw ["text","new","below","counts","second"] ["text","new","below"] (fO SW):=⟨rfl,rfl,rfl,by decide+kernel,rfl,by decide+kernel,by decide+kernel⟩
def Qw:Sp:=fun vs H Q _=>∃(old new:List Str)(i:Nat)(t:Str)(n b:Addr),vs=[.str t,.ref n,.ref b]∧old[i]?=some t∧H n=some (.lst (gi new))∧H b=some (.lst (tab old new (i+1)))∧new.length≤1000∧
 ∀p H',gg H H'→H p=none→H' p=some (.lst (tab old new i))→Q (.ref p) H'
theorem Qx{f:Addr}{fd:FuncData}(F:AL K "counts_with" "counts_with" SW f fd)(T:Txt mg):iw P w K mg base m_ 1 f fd ["text","new","below"] Qw:=by
 refine F.ok NC (fun vs H Q E h=>?_) (fun jL A outer s H vs Q E hr h=>?_)
 · obtain⟨old,new,i,t,n,b,rfl,_⟩:=h
   rfl
 · obtain⟨old,new,i,t,n,b,rfl,ht,hn,hb,hl,k⟩:=h
   refine⟨_,c_ (gs (i:=3) NC.nd rfl (Or.inl rfl) (gn Ez (iQ (a_ f_ d_)) (gn iP (gA gm (by rfl) T.len aan (a_ (pv 1) d_)) f_)))
     (c_ (iL PassesOwn.never rfl (vq rfl T.range (a_ (gn ym (gA gm (by rfl) T.len aan (a_ (pv 1) d_)) f_) (a_ (qP nE f_) (a_ (qP nE f_) d_)))) (gr (i:=4) NC.nd rfl (Or.inl rfl))
       (e_ (iF (ij me (iy hX (pv 1) (pv 4) (fun _ _=>rfl)) (pv 0) (iD _))
         (e_ (Bk (gn iP (iy hX (pv 2) (gn iP (pv 4) f_) (fun _ _=>rfl)) f_) (Bj (pv 3) (pv 4) set_list)))
         (e_ (Bk (gA (Gq rfl) (by rfl) T.max PyProof.Rows.boot_max (a_ (iy hX (pv 2) (pv 4) (fun _ _=>rfl)) (a_ (iy hX (pv 3) (gn iP (pv 4) f_) (fun _ _=>rfl)) d_))) (Bj (pv 3) (pv 4) set_list))))))
     (e_ (h_ (pv 3)))),?_⟩
   refine⟨jK,fun l Pc=>?_⟩
   have JU:(upd H l (.lst [V.int 0])) n=some (.lst (gi new)):=by rw[de (gc hn Pc)];exact hn
   refine⟨_,rfl,n,_,rfl,.inl (g_.of JU),_,_,rfl,rfl,l,_,_,rfl,rfl,b_,by simp<;>omega,by simp<;>omega,by simp;have:sizeLine=2 ^ 24:=rfl;omega,fun p hp=>?_⟩
   have pM:p≠l:=fun z=>by rw[z,b_] at hp;cases hp
   have Fc:H p=none:=by rw[de pM] at hp;exact hp
   have s0:gg H (upd H l (.lst [V.int 0])):=(gg.refl H).upd Pc
   have e0:(List.replicate (((gi new).length:Int)+1).toNat [V.int 0]).flatten=part old new i 0:=A6 old new i _ (by simp<;>omega)
   rw[e0]
   have s1:gg H (upd (upd H l (.lst [V.int 0])) p (.lst (part old new i 0))):=s0.upd Fc
   refine⟨_,rfl,n,_,rfl,.inl (g_.of (s1 n _ hn)),_,_,rfl,rfl,_,rfl,_,rfl,_,_,rfl,⟨by simp<;>omega,by simp<;>omega,by omega,by omega⟩,?_⟩
   have en:((((gi new).length:Int)-1) - -1).toNat=new.length:=by simp<;>omega
   rw[en]
   refine tq (fun m σ H2=>∃v,σ=[some (.str t),some (.ref n),some (.ref b),some (.ref p),v]∧gg H H2∧H2 p=some (.lst (part old new i m))) ⟨none,rfl,s1,b_⟩ ?_ ?_
   · rintro m σ H2 hm ⟨v,rfl,s2,h2⟩
     obtain⟨j,hj⟩:∃j,j=new.length-1-m:=⟨_,rfl⟩
     have hjl:j<new.length:=by omega
     rw[show((gi new).length:Int)-1+(m:Int) * -1=(j:Int) by simp<;>omega]
     have OA:new[j]?=some new[j]:=UN hjl
     have B:=K01.KU ht OA
     refine⟨_,rfl,_,rfl,n,_,_,_,rfl,rfl,g_.of (s2 n _ hn),iA rfl (oj OA),_,rfl,rfl,_,rfl,?_⟩
     refine ku (fun hc=>?_) (fun hc=>?_)
     · have hc:new[j]=t:=by have:=aam hc;injection this
       rw[aar hc] at B
       refine⟨_,rfl,_,rfl,_,_,rfl,rfl,b,_,_,_,rfl,rfl,g_.of (s2 b _ hb),iA (j:=j+1) (by omega) (B0 (by omega)),_,_,rfl,rfl,_,rfl,_,rfl,p,_,_,j,rfl,rfl,h2,Bz rfl (by rw[zj];omega),?_⟩
       refine⟨_,rfl,s2.upd Fc,?_⟩
       rw[b_]
       dsimp only
       have e:((K01.vC old new (i+1) (j+1):Nat):Int)+1=((K01.vC old new i j:Nat):Int):=by omega
       rw[e,hj,DN hm]
     · have hc:¬new[j]=t:=fun z=>hc (by rw[z];exact VE rfl)
       rw[aak hc] at B
       refine⟨_,rfl,_,rfl,b,_,_,_,rfl,rfl,g_.of (s2 b _ hb),iA rfl (B0 (by omega)),_,rfl,_,rfl,_,_,rfl,rfl,p,_,_,_,rfl,rfl,g_.of h2,iA (j:=j+1) (by omega) (FN (by omega) (by omega)),_,_,rfl,_,rfl,_,rfl,p,_,_,j,rfl,rfl,h2,Bz rfl (by rw[zj];omega),?_⟩
       refine⟨_,rfl,s2.upd Fc,?_⟩
       rw[b_]
       have e:(if((K01.vC old new i (j+1):Nat):Int)>((K01.vC old new (i+1) j:Nat):Int) then((K01.vC old new i (j+1):Nat):Int) else((K01.vC old new (i+1) j:Nat):Int))=((K01.vC old new i j:Nat):Int):=by split<;>omega
       rw[e,hj,DN hm]
   · rintro σ H2 ⟨v,rfl,s2,h2⟩
     refine⟨_,rfl,k p H2 s2 Fc ?_⟩
     rw[h2,Jo]
def L5(H:Hp)(old new:List Str)(rows:List V)(RN:Nat):Prop:=rows.length=old.length+1∧∀i,i≤old.length→∃a,rows[i]?=some (.ref a)∧(RN≤i→H a=some (.lst (tab old new i)))
abbrev nMP:List Str:=["old","new","table","first","place"]
theorem K8:gw ["old","new","table","first","place"] ["old","new"] (fO SX):=⟨rfl,rfl,rfl,by decide+kernel,rfl,by decide+kernel,by decide+kernel⟩
def Qy:Sp:=fun vs H Q _=>∃(old new:List Str)(o n:Addr),vs=[.ref o,.ref n]∧H o=some (.lst (gi old))∧H n=some (.lst (gi new))∧old.length≤1000∧new.length≤1000∧
 ∀p H' rows,gg H H'→H p=none→H' p=some (.lst rows)→L5 H' old new rows 0→Q (.ref p) H'
theorem Jp(new:List Str)(n:Nat)(h:n=new.length+1):(List.replicate n [V.int 0]).flatten=tab [] new 0:=by
 rw[A6 [] new 0 n h]
 unfold part tab
 refine abA fun j _=>?_
 rw[show K01.vC ([]:List Str) new 0 j=0 from K01.x_ (.inl (by simp))]
 split<;>rfl
theorem K9(old new:List Str)(n:Nat)(h:n=new.length+1):(List.replicate n [V.int 0]).flatten=tab old new old.length:=by
 rw[Jp new n h]
 unfold tab
 refine abA fun j _=>?_
 rw[show K01.vC ([]:List Str) new 0 j=0 from K01.x_ (.inl (by simp)),K01.x_ (.inl (UU _))]
theorem Qz{f fC:Addr}{fd Pk:FuncData}(F:AL K "most_pairs" "most_pairs" SX f fd)(T:Txt mg)(C:AL K "counts_with" "counts_with" SW fC Pk)(bC:Binds K Pk ["text","new","below"] [])(mC:mg "counts_with"=some (.ref fC)) :
   iw P w K mg base m_ 2 f fd ["old","new"] Qy:=by
 have GC:iw P w K mg base m_ 1 fC Pk ["text","new","below"] Qw:=Qx C T
 refine F.ok K8 (fun vs H Q E h=>?_) (fun jL A outer s H vs Q E hr h=>?_)
 · obtain⟨old,new,o,n,rfl,_⟩:=h
   rfl
 · obtain⟨old,new,o,n,rfl,ho,hn,Vi,xU,k⟩:=h
   refine⟨_,c_ (C3 (j:=2) nMP (fO SX).names [4] K8.nd rfl rfl rfl (lb rfl T.range (a_ (gn iP (gA gm (by rfl) T.len aan (a_ (pv 0) d_)) f_) d_)) rfl (by decide+kernel)
       (fun _ _ _ _=>gr (i:=4) K8.nd rfl (Or.inl rfl)) (fun _ _ _ _=>mx) (fun _ _ _ _=>⟨_,gn Ez (iQ (a_ f_ d_)) (gn iP (gA gm (by rfl) T.len aan (a_ (pv 1) d_)) f_),by(try simp only [iu]);rfl⟩))
     (c_ (iL PassesOwn.never rfl (vq rfl T.range (a_ (gn ym (gA gm (by rfl) T.len aan (a_ (pv 0) d_)) f_) (a_ (qP nE f_) (a_ (qP nE f_) d_)))) (gr (i:=3) K8.nd rfl (Or.inl rfl))
       (e_ (Bk (ud GC hr rfl mC C.kp bC .nil oa (a_ (iy hX (pv 0) (pv 3) (fun _ _=>rfl)) (a_ (pv 1) (a_ (iy hX (pv 2) (gn iP (pv 3) f_) (fun _ _=>rfl)) d_)))) (Bj (pv 2) (pv 3) set_list))))
     (e_ (h_ (pv 2)))),?_⟩
   refine⟨_,rfl,o,_,rfl,.inl (g_.of ho),_,_,rfl,rfl,_,rfl,by simp<;>omega,by simp<;>omega,?_⟩
   have en:(((gi old).length:Int)+1).toNat=old.length+1:=by simp<;>omega
   rw[en]
   refine ui (by have:sizeLine=2 ^ 24:=rfl;omega) (fun m ys σ H2=>∃v,σ=[some (.ref o),some (.ref n),none,none,v]∧gg H H2∧ys.length=m∧∀i,i<m→∃a,ys[i]?=some (.ref a)∧H a=none∧H2 a=some (.lst (tab old new old.length)))
     ⟨none,rfl,gg.refl H,rfl,fun i hi=>absurd hi (Nat.not_lt_zero _)⟩ (fun i ys σ H ⟨_,_,_,e,_⟩=>Nat.le_of_eq e) ?_ ?_
   · rintro m ys σ H2 hm ⟨v,rfl,s2,hy,Ef⟩
     refine⟨jK,fun l Pc=>?_⟩
     have s3:gg H (upd H2 l (.lst [V.int 0])):=s2.new Pc
     refine⟨_,rfl,n,_,rfl,.inl (g_.of (s3 n _ hn)),_,_,rfl,rfl,l,_,_,rfl,rfl,b_,by simp<;>omega,by simp<;>omega,by simp;have:sizeLine=2 ^ 24:=rfl;omega,fun p hp=>?_⟩
     rw[K9 old new _ (show(((gi new).length:Int)+1).toNat=new.length+1 by simp<;>omega)]
     have pM:p≠l:=fun z=>by rw[z,b_] at hp;cases hp
     have zZ:H2 p=none:=by rw[de pM] at hp;exact hp
     refine⟨_,rfl,s3.new hp,by rw[VJ,hy];rfl,fun i hi=>?_⟩
     by_cases e:i<m
     · obtain⟨a,e1,e2,e3⟩:=Ef i e
       refine⟨a,by rw[abr (by omega)];exact e1,e2,?_⟩
       rw[de (gc e3 zZ),de (gc e3 Pc)]
       exact e3
     · have:i=m:=by omega
       subst this
       exact⟨p,by rw[aa3 (by omega),hy];simp,s2.free zZ,b_⟩
   · rintro ys σ H2 ⟨v,rfl,s2,hy,Ef⟩ p hp
     have s3:gg H (upd H2 p (.lst ys)):=s2.new hp
     have Fc:H p=none:=s2.free hp
     refine⟨_,rfl,o,_,rfl,.inl (g_.of (s3 o _ ho)),_,_,rfl,rfl,_,rfl,_,rfl,_,_,rfl,⟨by simp<;>omega,by simp<;>omega,by omega,by omega⟩,?_⟩
     have en:((((gi old).length:Int)-1) - -1).toNat=old.length:=by simp<;>omega
     rw[en]
     refine tq (fun m σ H3=>∃v w rows,σ=[some (.ref o),some (.ref n),some (.ref p),v,w]∧gg H H3∧H3 p=some (.lst rows)∧L5 H3 old new rows (old.length-m)∧∀i a,i≤old.length→rows[i]?=some (.ref a)→a≠p)
       ⟨_,_,ys,rfl,s3,b_,⟨hy,fun i hi=>?_⟩,fun i a hi ha=>?_⟩ ?_ ?_
     · obtain⟨a,e1,e2,e3⟩:=Ef i (by omega)
       refine⟨a,e1,fun z=>?_⟩
       have:i=old.length:=by omega
       subst this
       rw[de (gc e3 hp)]
       exact e3
     · obtain⟨a',e1,e2,e3⟩:=Ef i (by omega)
       rw[ha] at e1
       cases e1
       exact gc e3 hp
     · rintro m σ H3 hm ⟨v,w',rows,rfl,s4,h4,tb,nb⟩
       obtain⟨i,hi⟩:∃i,i=old.length-1-m:=⟨_,rfl⟩
       have O_:i<old.length:=by omega
       rw[show((gi old).length:Int)-1+(m:Int) * -1=(i:Int) by simp<;>omega]
       have Tf:old[i]?=some old[i]:=UN O_
       obtain⟨b,e1,e2⟩:=tb.2 (i+1) (by omega)
       refine⟨_,rfl,_,rfl,o,_,_,_,rfl,rfl,g_.of (s4 o _ ho),iA rfl (oj Tf),_,rfl,_,rfl,_,rfl,_,_,rfl,rfl,p,_,_,_,rfl,rfl,g_.of h4,iA (j:=i+1) (by omega) e1,?_⟩
       refine⟨old,new,i,_,n,b,rfl,Tf,s4 n _ hn,e2 (by omega),xU,fun q H5 s5 YW h5=>?_⟩
       have YX:q≠p:=fun z=>by rw[z,h4] at YW;cases YW
       refine⟨_,rfl,_,rfl,p,rows,_,i,rfl,rfl,s5 p _ h4,Bz rfl (by rw[tb.1];omega),?_⟩
       refine⟨_,_,_,rfl,(s4.trans s5).upd Fc,b_,⟨by rw[abV];exact tb.1,fun i' zv=>?_⟩,fun i' a zv ha=>?_⟩
       · by_cases e:i'=i
         · subst e
           refine⟨q,by rw[aa4 (by rw[tb.1];omega)],fun _=>?_⟩
           rw[de YX];exact h5
         · obtain⟨a,a1,a2⟩:=tb.2 i' zv
           refine⟨a,by rw[abb (fun z=>e z.symm)];exact a1,fun z=>?_⟩
           rw[de (nb i' a zv a1)]
           exact s5 a _ (a2 (by omega))
       · by_cases e:i'=i
         · subst e
           rw[aa4 (by rw[tb.1];omega)] at ha
           cases ha
           exact YX
         · rw[abb (fun z=>e z.symm)] at ha
           exact nb i' a zv ha
     · rintro σ H3 ⟨v,w',rows,rfl,s4,h4,tb,nb⟩
       refine⟨_,rfl,k p H3 rows s4 Fc h4 ?_⟩
       rw[Nat.sub_self] at tb
       exact tb
end
end Kp
namespace K01
theorem B1{α:Type}[DecidableEq α]{a:α}{new:List α}{j k:Nat}(hj:j≤k)(hk:new[k]?=some a)(hm:∀l,j≤l→l<k→new[l]?≠some a):jc a new j=some k:=by
 cases e:jc a new j with
 | none=>exact absurd hk (nK e k hj)
 | some k'=>
   obtain⟨h1,h2,h3⟩:=kx e
   rcases Nat.lt_trichotomy k k' with h|h|h
   · exact absurd hk (h3 k hj h)
   · rw[h]
   · exact absurd h2 (hm k' h1 h)
theorem B2{α:Type}[DecidableEq α]{a:α}{new:List α}{j:Nat}(hm:∀l,j≤l→l<new.length→new[l]?≠some a):jc a new j=none:=by
 cases e:jc a new j with
 | none=>rfl
 | some k'=>
   obtain⟨h1,h2,h3⟩:=kx e
   exact absurd h2 (hm k' h1 (Rt.mp h2).1)
end K01
namespace Kp
open PySem L2
section
variable{P:Program}{w:World}{K:PySem.W.Frag}{mg:Str→Option Value}{base:Heap}
def U0:Option Nat→V
 | none=>.jx
 | some k=>.int k
theorem QA:gw ["texts","text","start","place"] ["texts","text","start"] (fO UZ):=⟨rfl,rfl,rfl,by decide+kernel,rfl,by decide+kernel,by decide+kernel⟩
def QB:Sp:=fun vs H Q _=>∃(new:List Str)(t:Str)(n:Addr)(j:Nat),vs=[.ref n,.str t,.int j]∧H n=some (.lst (gi new))∧new.length≤1000∧j≤1000∧Q (U0 (K01.jc t new j)) H
theorem QC{f:Addr}{fd:FuncData}(F:AL K "place_from" "place_from" UZ f fd)(T:Txt mg):iw P w K mg base m_ 1 f fd ["texts","text","start"] QB:=by
 refine F.ok QA (fun vs H Q E h=>?_) (fun jL A outer s H vs Q E hr h=>?_)
 · obtain⟨new,t,n,j,rfl,_⟩:=h
   rfl
 · obtain⟨new,t,n,j,rfl,hn,hl,hj,k⟩:=h
   refine⟨_,c_ (iL PassesOwn.never rfl (AA rfl T.range (a_ (pv 2) (a_ (gA gm (by rfl) T.len aan (a_ (pv 0) d_)) d_))) (gr (i:=3) QA.nd rfl (Or.inl rfl))
       (e_ (iF (ij me (iy hX (pv 0) (pv 3) (fun _ _=>rfl)) (pv 1) (iD _)) (e_ (h_ (pv 3))) ib)))
     (e_ (h_ sZ)),?_⟩
   refine⟨_,rfl,_,rfl,n,_,rfl,.inl (g_.of hn),_,_,rfl,⟨by omega,by omega,by simp<;>omega,by simp<;>omega⟩,?_⟩
   refine nv (fun m σ H2=>∃v,σ=[some (.ref n),some (.str t),some (.int j),v]∧H2=H∧∀l,j≤l→l<j+m→new[l]?≠some t) ⟨none,rfl,rfl,fun l h1 h2=>by omega⟩ ?_ ?_
   · rintro m σ H2 hm ⟨v,rfl,rfl,h2⟩
     have hm:j+m<new.length:=by simp at hm;omega
     rw[show(j:Int)+(m:Int)=((j+m:Nat):Int) by omega]
     have OA:new[j+m]?=some new[j+m]:=UN hm
     refine⟨_,rfl,_,rfl,n,_,_,_,rfl,rfl,g_.of hn,iA rfl (oj OA),_,rfl,rfl,_,rfl,?_⟩
     refine ku (fun hc=>?_) (fun hc=>?_)
     · have hc:new[j+m]=t:=by have:=aam hc;injection this
       rw[hc] at OA
       rw[K01.B1 (Nat.le_add_right j m) OA h2] at k
       exact⟨_,rfl,k⟩
     · have hc:¬new[j+m]=t:=fun z=>hc (by rw[z];exact VE rfl)
       refine⟨_,rfl,rfl,fun l h3 h4=>?_⟩
       by_cases e:l=j+m
       · subst e
         rw[OA]
         intro z
         exact hc (aau z)
       · exact h2 l h3 (by omega)
   · rintro σ H2 ⟨v,rfl,rfl,h2⟩
     rw[K01.B2 (j:=j) fun l h3 h4=>h2 l h3 (by simp<;>omega)] at k
     exact k
def k_(H:Hp)(q:Nat×Nat)(v:V):Prop:=∃a,v=.ref a∧H a=some (.tup [.int q.1,.int q.2])
abbrev iY(H:Hp)(l:List (Nat×Nat))(vs:List V):Prop:=Paired (k_ H) l vs
theorem iY.keep{H H':Hp}{l:List (Nat×Nat)}{vs:List V}(h:iY H l vs)(k:∀a xs,H a=some (.tup xs)→H' a=some (.tup xs)):iY H' l vs:=
 Paired.kO h fun q v ⟨a,e,h⟩=>⟨a,e,k a _ h⟩
theorem ND:gw ["old","new","table","pairs","start","first","second"] ["old","new"] (fO L4):=⟨rfl,rfl,rfl,by decide+kernel,rfl,by decide+kernel,by decide+kernel⟩
def Yb:Sp:=fun vs H Q _=>∃(old new:List Str)(o n:Addr),vs=[.ref o,.ref n]∧H o=some (.lst (gi old))∧H n=some (.lst (gi new))∧old.length≤1000∧new.length≤1000∧
 ∀p H' ps,gg H H'→H p=none→H' p=some (.lst ps)→iY H' (K01.kept old new) ps→Q (.ref p) H'
theorem K_{f fM fC fP:Addr}{fd V8 Pk V9:FuncData}(F:AL K "kept" "kept" L4 f fd)(T:Txt mg)(C:AL K "counts_with" "counts_with" SW fC Pk)(bC:Binds K Pk ["text","new","below"] [])(mC:mg "counts_with"=some (.ref fC))
   (M:AL K "most_pairs" "most_pairs" SX fM V8) (bM:Binds K V8 ["old","new"] []) (mM:mg "most_pairs"=some (.ref fM)) (Pf:AL K "place_from" "place_from" UZ fP V9) (bP:Binds K V9 ["texts","text","start"] []) (mP:mg "place_from"=some (.ref fP)) :
   iw P w K mg base m_ 3 f fd ["old","new"] Yb:=by
 have GM:iw P w K mg base m_ 2 fM V8 ["old","new"] Qy:=Qz M T C bC mC
 have GP:iw P w K mg base m_ 2 fP V9 ["texts","text","start"] QB:=(QC Pf T).mono (by decide)
 refine F.ok ND (fun vs H Q E h=>?_) (fun jL A outer s H vs Q E hr h=>?_)
 · obtain⟨old,new,o,n,rfl,_⟩:=h
   rfl
 · obtain⟨old,new,o,n,rfl,ho,hn,Vi,xU,k⟩:=h
   refine⟨_,c_ (gs (i:=2) ND.nd rfl (Or.inl rfl) (ud GM hr rfl mM M.kp bM .nil oa (a_ (pv 0) (a_ (pv 1) d_))))
     (c_ (gs (i:=3) ND.nd rfl (Or.inl rfl) (iQ d_))
     (c_ (gs (i:=4) ND.nd rfl (Or.inl rfl) f_)
     (c_ (iL PassesOwn.never rfl (lb rfl T.range (a_ (gA gm (by rfl) T.len aan (a_ (pv 0) d_)) d_)) (gr (i:=5) ND.nd rfl (Or.inl rfl))
       (c_ (gs (i:=6) ND.nd rfl (Or.inl rfl) (ud GP hr rfl mP Pf.kp bP .nil oa (a_ (pv 1) (a_ (iy hX (pv 0) (pv 5) (fun _ _=>rfl)) (a_ (pv 4) d_)))))
       (e_ (iF (pw_and (jn (pQ (pv 6))) (pw_and1 (ij me
           (gn iP (iy hX (iy hX (pv 2) (gn iP (pv 5) f_) (fun _ _=>rfl)) (gn iP (pv 6) f_) (fun _ _=>rfl)) f_)
           (iy hX (iy hX (pv 2) (pv 5) (fun _ _=>rfl)) (pv 4) (fun _ _=>rfl)) (iD _)))).pt
         (c_ (hZ (qA aaJ aaS aaT kG (pv 3) (a_ (Bm (a_ (pv 5) (a_ (pv 6) d_))) d_)))
         (e_ (gs (i:=4) ND.nd rfl (Or.inl rfl) (gn iP (pv 6) f_))))
         ib))))
     (e_ (h_ (pv 3)))))),?_⟩
   refine⟨_,rfl,_,rfl,old,new,o,n,rfl,ho,hn,Vi,xU,fun tb H1 rows s1 VY h1 RO=>?_⟩
   refine⟨jK,fun pr Tw=>?_⟩
   have V_:H pr=none:=s1.free Tw
   refine⟨_,rfl,o,_,rfl,.inl (g_.of (s1.new Tw o _ ho)),_,rfl,by simp<;>omega,by simp<;>omega,?_⟩
   have en:((gi old).length:Int).toNat=old.length:=by simp
   rw[en]
   refine nv (fun m σ H2=>∃(j:Nat)(acc:List (Nat×Nat))(ps:List V)(v w:Option V),σ=[some (.ref o),some (.ref n),some (.ref tb),some (.ref pr),some (.int j),v,w]∧gg H1 H2∧H2 pr=some (.lst ps)∧iY H2 acc ps∧acc.length≤m∧j≤new.length∧
       acc++K01.o8 new m (old.drop m) j=K01.kept old new) ⟨0,[],[],none,none,rfl,(gg.refl H1).new Tw,b_,.nil,UU _,aaE _,rfl⟩ ?_ ?_
   · rintro m σ H2 hm ⟨j,acc,ps,v,w',rfl,s2,h2,pa,u2,hj,hk⟩
     rw[show(0:Int)+(m:Int)=(m:Int) by omega]
     have OB:old[m]?=some old[m]:=UN hm
     have hd:old.drop m=old[m]::old.drop (m+1):=aaI hm
     rw[hd,K01.o8] at hk
     refine⟨_,rfl,_,rfl,_,rfl,o,_,_,_,rfl,rfl,g_.of (s2 o _ (s1 o _ ho)),iA rfl (oj OB),_,rfl,new,_,n,j,rfl,s2 n _ (s1 n _ hn),xU,by omega,?_⟩
     cases e:K01.jc old[m] new j with
     | none=>
       rw[e] at hk
       refine⟨_,rfl,_,rfl,Qc (by rfl) (jU ?_)⟩
       exact⟨j,acc,ps,_,_,rfl,s2,h2,pa,by omega,hj,hk⟩
     | some q=>
       rw[e] at hk
       simp only at hk
       obtain⟨hq1,hq2,hq3⟩:=K01.kx e
       have Mo:q<new.length:=(Rt.mp hq2).1
       obtain⟨a1,ea1,Wa⟩:=RO.2 (m+1) (by omega)
       obtain⟨a0,ea0,Wb⟩:=RO.2 m (by omega)
       have Wa:=s2 a1 _ (Wa (aaE _))
       have Wb:=s2 a0 _ (Wb (aaE _))
       have RP:H2 tb=some (.lst rows):=s2 tb _ h1
       refine⟨_,rfl,_,rfl,Iy (by rfl) ?_⟩
       refine⟨_,rfl,_,rfl,_,_,rfl,rfl,tb,_,_,_,rfl,rfl,g_.of RP,iA (j:=m+1) (by omega) ea1,_,rfl,_,_,rfl,rfl,a1,_,_,_,rfl,rfl,g_.of Wa,iA (j:=q+1) (by omega) (B0 (by omega)),_,_,rfl,rfl,
         _,rfl,_,rfl,tb,_,_,_,rfl,rfl,g_.of RP,iA rfl ea0,_,rfl,a0,_,_,_,rfl,rfl,g_.of Wb,iA rfl (B0 (by omega)),rfl,_,rfl,?_⟩
       refine ku (fun hc=>?_) (fun hc=>?_)
       · have hc:((K01.vC old new (m+1) (q+1):Nat):Int)+1=((K01.vC old new m j:Nat):Int):=by have:=aam hc;injection this
         have Be:K01.lcs (old.drop (m+1)) (new.drop (q+1))+1=K01.lcs (old[m]::old.drop (m+1)) (new.drop j):=by rw[←hd];unfold K01.vC at hc;omega
         rw[aar Be] at hk
         refine⟨_,rfl,.inl ⟨rfl,_,g_.of h2⟩,_,rfl,_,rfl,jK,fun t ht=>?_⟩
         have pM:=pa.length
         have YY:pr≠t:=gc h2 ht
         refine⟨pr,ps,_,rfl,rfl,by rw[de YY];exact h2,by have:sizeLine=2 ^ 24:=rfl;omega,?_⟩
         refine⟨_,rfl,_,_,rfl,rfl,q+1,acc++[(m,q)],ps++[.ref t],_,_,rfl,(s2.new ht).upd Tw,b_,?_,by rw[VJ];simp;omega,by omega,by rw[aaM];exact hk⟩
         refine Paired.snoc (pa.keep fun a xs ha=>?_) ⟨t,rfl,?_⟩
         · rw[de (i_ ha h2 (by intro z;cases z)),de (gc ha ht)];exact ha
         · rw[de (abq YY),b_]
           rfl
       · have hc:¬((K01.vC old new (m+1) (q+1):Nat):Int)+1=((K01.vC old new m j:Nat):Int):=fun z=>hc (VE (aaW V.int z))
         have Be:¬K01.lcs (old.drop (m+1)) (new.drop (q+1))+1=K01.lcs (old[m]::old.drop (m+1)) (new.drop j):=by rw[←hd];unfold K01.vC at hc;omega
         rw[aak Be] at hk
         exact⟨j,acc,ps,_,_,rfl,s2,h2,pa,by omega,hj,hk⟩
   · rintro σ H2 ⟨j,acc,ps,v,w',rfl,s2,h2,pa,u2,hj,hk⟩
     rw[abT,K01.o8,aaF] at hk
     rw[hk] at pa
     exact⟨_,rfl,k pr H2 ps (s1.trans s2) V_ h2 pa⟩
end
end Kp
namespace PK
open PySem L2 PM
open Kp (k_ iY)
theorem NF(a b c d:V):jD "lower_name" d (jD "upper_name" c (jD "text" b (jD "name" a [])))=K4 a b c d:=by kernel_rfl
theorem NG(a b c d e:V):jD "other" e (jD "cuts" d (jD "puts" c (jD "file" b (jD "name" a []))))=K5 a b c d e:=by kernel_rfl
def O3(a l:Addr):List (Str×V):=[("ahead",.ref a),("lines",.ref l)]
theorem NH(a l:Addr):jD "lines" (.ref l) (jD "ahead" (.ref a) [])=O3 a l:=by kernel_rfl
theorem ll(a l:Addr):(O3 a l).lookup ("lines":Str)=some (V.ref l):=by kernel_rfl
theorem EW(a l:Addr):(O3 a l).lookup ("ahead":Str)=some (V.ref a):=by kernel_rfl
theorem NI(a l:Addr):(O3 a l).lookup ("is_ahead":Str)=none:=by kernel_rfl
theorem Jq(a l:Addr):(O3 a l).lookup ("quarrelling":Str)=none:=by kernel_rfl
theorem G3(a:Addr):(jD ("ahead":Str) (.ref a) []).lookup ("ahead":Str)=some (V.ref a):=by kernel_rfl
def EY(A:Ad)(H:Hp)(p:Addr)(al row:List Ln):Prop:=∃dx ah l,H p=some (.ins A.ic dx (O3 ah l))∧BY H ah al∧ql A H l row
theorem EY.same{A:Ad}{H H':Hp}{p:Addr}{al row:List Ln}(x:EY A H p al row)(s:gg H H'):EY A H' p al row:=by
 obtain⟨dx,ah,l,h1,h2,h3⟩:=x
 exact⟨dx,ah,l,s _ _ h1,h2.same s,h3.same s⟩
section
variable{P:Program}{w:World}{K:PySem.W.Frag}{mg:Str→Option Value}{base:Heap}{A:Ad}
def QD(A:Ad):Sp:=fun vs H Q _=>∃(p dx:Addr)(a b c d:V),vs=[.ref p,a,b,c,d]∧H p=some (.ins A.hG dx [])∧∀H',(∀x,x≠p→H' x=H x)→H' p=some (.ins A.hG dx (K4 a b c d))→Q .jx H'
theorem B3(T:Txt mg)(O:Ok K mg A):iw P w K mg base m_ 1 A.mG A.qD ["self","name","text","upper_name","lower_name"] (QD A):=by
 refine O.sU.f.ok vG (fun vs H Q E h=>?_) (fun jL A0 outer s H vs Q E hr h=>?_)
 · obtain⟨p,dx,a,b,c,d,rfl,_⟩:=h
   rfl
 · obtain⟨p,dx,a,b,c,d,rfl,hp,k⟩:=h
   refine⟨_,(c_ (lx (pv 0) (pv 1) rfl)
     (c_ (lx (pv 0) (pv 2) rfl)
     (c_ (lx (pv 0) (pv 3) rfl)
     (e_ (lx (pv 0) (pv 4) rfl))))),?_⟩
   refine L0 ?_;intro _ _ _
   refine⟨_,rfl,_,rfl,p,A.hG,dx,_,rfl,hp,O.iR,O.hE,(by show 0<1000;decide),?_⟩
   refine⟨_,rfl,_,rfl,p,A.hG,dx,_,rfl,b_,O.iR,O.jI,(by show 1<1000;decide),?_⟩
   refine⟨_,rfl,_,rfl,p,A.hG,dx,_,rfl,b_,O.iR,O.iI,(by show 2<1000;decide),?_⟩
   refine⟨_,rfl,_,rfl,p,A.hG,dx,_,rfl,b_,O.iR,O.iJ,(by show 3<1000;decide),?_⟩
   exact k _ (fun x hx=>by rw[de hx,de hx,de hx,de hx]) (Eq.trans b_ (aaW (fun l=>some (HO.ins A.hG dx l)) (NF a b c d)))
def QE(A:Ad):Sp:=fun vs H Q _=>∃(p dx:Addr)(a b c d e:V),vs=[.ref p,a,b,c,d,e]∧H p=some (.ins A.hV dx [])∧∀H',(∀x,x≠p→H' x=H x)→H' p=some (.ins A.hV dx (K5 a b c d e))→Q .jx H'
theorem oV(T:Txt mg)(O:Ok K mg A):iw P w K mg base m_ 1 A.l5 A.pd ["self","name","file","puts","cuts","other"] (QE A):=by
 refine O.lN.f.ok uv (fun vs H Q E h=>?_) (fun jL A0 outer s H vs Q E hr h=>?_)
 · obtain⟨p,dx,a,b,c,d,e,rfl,_⟩:=h
   rfl
 · obtain⟨p,dx,a,b,c,d,e,rfl,hp,k⟩:=h
   refine⟨_,(c_ (lx (pv 0) (pv 1) rfl)
     (c_ (lx (pv 0) (pv 2) rfl)
     (c_ (lx (pv 0) (pv 3) rfl)
     (c_ (lx (pv 0) (pv 4) rfl)
     (e_ (lx (pv 0) (pv 5) rfl)))))),?_⟩
   refine Qd ?_;intro _ _ _ _
   refine⟨_,rfl,_,rfl,p,A.hV,dx,_,rfl,hp,O.jt,O.iZ,(by show 0<1000;decide),?_⟩
   refine⟨_,rfl,_,rfl,p,A.hV,dx,_,rfl,b_,O.jt,O.kc,(by show 1<1000;decide),?_⟩
   refine⟨_,rfl,_,rfl,p,A.hV,dx,_,rfl,b_,O.jt,O.jM,(by show 2<1000;decide),?_⟩
   refine⟨_,rfl,_,rfl,p,A.hV,dx,_,rfl,b_,O.jt,O.jN,(by show 3<1000;decide),?_⟩
   refine⟨_,rfl,_,rfl,p,A.hV,dx,_,rfl,b_,O.jt,O.i4,(by show 4<1000;decide),?_⟩
   exact k _ (fun x hx=>by rw[de hx,de hx,de hx,de hx,de hx]) (Eq.trans b_ (aaW (fun l=>some (HO.ins A.hV dx l)) (NG a b c d e)))
def La(A:Ad):Sp:=fun vs H Q _=>∃(p dx a:Addr)(ps:List Pt)(f:Str),vs=[.ref p,.ref a,.str f]∧H p=some (.ins A.ic dx [])∧xO A H a ps∧Small ps∧
 ((hU ps f).map (·.nm)).Nodup∧pZ (hU ps f)∧IV (hU ps f)∧
 ∀(H':Hp),(∀b o,H b=some o→b≠p→H' b=some o)→EY A H' p (hU ps f) (rowOf (Ah (hU ps f)) (nL ps f))→Q .jx H'
theorem lr.off{H H':Hp}{p C dx:Addr}{fs:List (Str×V)}{v:V}{n:Nm}(x:lr H v n)(hp:H p=some (.ins C dx fs))(s:∀b o,H b=some o→b≠p→H' b=some o):lr H' v n:=by
 obtain⟨t,e,h⟩:=x
 exact⟨t,e,s _ _ h (i_ h hp (fun z=>by cases z))⟩
theorem ES.off{H H':Hp}{p C dx:Addr}{fs:List (Str×V)}{v:V}{n:Option Nm}(x:ES H v n)(hp:H p=some (.ins C dx fs))(s:∀b o,H b=some o→b≠p→H' b=some o):ES H' v n:=by
 cases n with
 | none=>exact x
 | some n=>exact lr.off x hp s
theorem mI.off{H H':Hp}{p C dx a:Addr}{fs:List (Str×V)}{l:Ln}(x:mI A H a l)(hp:H p=some (.ins C dx fs))(hf:fs.length<2)(s:∀b o,H b=some o→b≠p→H' b=some o):mI A H' a l:=by
 obtain⟨Wc,vn,vu,vl,h,h1,h2,h3⟩:=x
 have:a≠p:=fun z=>by
   rw[z,hp] at h
   have e:=aau h
   injection e with _ _ e
   rw[e] at hf
   exact absurd hf (by unfold K4;simp)
 exact⟨Wc,vn,vu,vl,s _ _ h this,h1.off hp s,h2.off hp s,h3.off hp s⟩
theorem ql.off{H H':Hp}{p C dx a:Addr}{fs:List (Str×V)}{ls:List Ln}(x:ql A H a ls)(hp:H p=some (.ins C dx fs))(hf:fs.length<2)(s:∀b o,H b=some o→b≠p→H' b=some o):ql A H' a ls:=by
 obtain⟨as,h,q⟩:=x
 exact⟨as,s _ _ h (i_ h hp (fun z=>by cases z)),Paired.kO q fun _ _ z=>z.off hp hf s⟩
theorem zh.off{H H':Hp}{p C dx a:Addr}{fs:List (Str×V)}{ns:List Nm}(x:zh H a ns)(hp:H p=some (.ins C dx fs))(s:∀b o,H b=some o→b≠p→H' b=some o):zh H' a ns:=by
 obtain⟨as,h,q⟩:=x
 exact⟨as,s _ _ h (i_ h hp (fun z=>by cases z)),Paired.kO q fun _ _ z=>z.off hp s⟩
theorem n5.off{H H':Hp}{p C dx a:Addr}{fs:List (Str×V)}{pt:Pt}(x:n5 A H a pt)(hp:H p=some (.ins C dx fs))(hf:fs.length<2)(s:∀b o,H b=some o→b≠p→H' b=some o):n5 A H' a pt:=by
 obtain⟨Wc,vf,pu,cu,vo,h,h1,h2,h3,h4⟩:=x
 have:a≠p:=fun z=>by
   rw[z,hp] at h
   have e:=aau h
   injection e with _ _ e
   rw[e] at hf
   exact absurd hf (by unfold K5;simp)
 exact⟨Wc,vf,pu,cu,vo,s _ _ h this,h1,h2.off hp hf s,h3.off hp s,h4⟩
theorem xO.off{H H':Hp}{p C dx a:Addr}{fs:List (Str×V)}{ps:List Pt}(x:xO A H a ps)(hp:H p=some (.ins C dx fs))(hf:fs.length<2)(s:∀b o,H b=some o→b≠p→H' b=some o):xO A H' a ps:=by
 obtain⟨as,h,q⟩:=x
 exact⟨as,s _ _ h (i_ h hp (fun z=>by cases z)),Paired.kO q fun _ _ z=>z.off hp hf s⟩
theorem BY.off{H H':Hp}{p C dx a:Addr}{fs:List (Str×V)}{ls:List Ln}(x:BY H a ls)(hp:H p=some (.ins C dx fs))(s:∀b o,H b=some o→b≠p→H' b=some o):BY H' a ls:=by
 obtain⟨kvs,e1,e2⟩:=x
 refine⟨kvs,s _ _ e1 (i_ e1 hp (fun z=>by cases z)),fun n hn=>?_⟩
 obtain⟨b,dk,z1,z2,z3⟩:=e2 n hn
 exact⟨b,dk,z1,s _ _ z2 (i_ z2 hp (fun z=>by cases z)),z3⟩
theorem An(T:Txt mg)(O:Ok K mg A):iw P w K mg base m_ 3 A.l6 A.pw ["self","patches","file"] (La A):=by
 have D6:=BZ (P:=P) (w:=w) (base:=base) T O
 have rS:=uS (P:=P) (w:=w) (base:=base) T O
 have wc:=uT (P:=P) (w:=w) (base:=base) T O
 have JV:=G2 (P:=P) (w:=w) (base:=base) T O
 refine O.rC.f.ok uw (fun vs H Q E h=>?_) (fun jL A0 outer s H vs Q E hr h=>?_)
 · obtain⟨p,dx,a,ps,f,rfl,_⟩:=h
   rfl
 · obtain⟨p,dx,a,ps,f,rfl,hp,ha,sm,nd,cl,tp,q⟩:=h
   have RQ:tX (hU ps f).length:=aab (qm ps f) sm.iH
   have xT:=lF ps f
   refine⟨_,(c_ (lx (pv 0) (pN O.AW D6 hr (a_ (pN O.vS rS hr (a_ (pv 1) (a_ (pv 2) d_))) d_)) rfl)
     (e_ (lx (pv 0) (pN O.Jd JV hr (a_ (pN O.rA wc hr (a_ (pv 1) (a_ (pv 2) d_))) (a_ (gz (pv 0) rfl) d_))) rfl))),?_⟩
   refine Hw ?_;intro _
   refine⟨_,rfl,_,rfl,a,ps,f,rfl,ha,sm,fun l1 H1 s1 Tx RS=>?_⟩
   refine⟨l1,_,rfl,RS,RQ,nd,cl,tp,fun ah H2 s2 Tz RT=>?_⟩
   have Wd:gg H H2:=s1.trans s2
   have zZ:=Wd p _ hp
   refine⟨_,rfl,p,A.ic,dx,_,rfl,zZ,O.j5,O.jA,(by show 0<1000;decide),?_⟩
   have s3:∀b o,H2 b=some o→b≠p→(upd H2 p (.ins A.ic dx (jD "ahead" (.ref ah) []))) b=some o:=fun b o e n=>by rw[de n];exact e
   have ha3:=(ha.same Wd).off zZ (by decide) s3
   have RU:=RT.off zZ s3
   refine⟨_,rfl,_,rfl,a,ps,f,rfl,ha3,sm,fun st H4 s4 TB RV=>?_⟩
   have RC:H4 p=some (.ins A.ic dx (jD "ahead" (.ref ah) [])):=s4 p _ b_
   refine⟨_,rfl,p,A.ic,dx,_,_,rfl,RC,O.j5,O.jA,G3 ah,st,ah,nL ps f,hU ps f,rfl,RV,RU.same s4,aab xT.length_le RQ,(xT.map _).nodup nd,fun l hl=>aac (xT.subset hl),tp,fun l H5 s5 TC RW=>?_⟩
   have We:=s5 p _ RC
   refine⟨_,rfl,p,A.ic,dx,_,rfl,We,O.j5,O.ix,(by show 1<1000;decide),?_⟩
   have s6:∀b o,H5 b=some o→b≠p→(upd H5 p (.ins A.ic dx (jD "lines" (.ref l) (jD "ahead" (.ref ah) [])))) b=some o:=fun b o e n=>by rw[de n];exact e
   refine q _ (fun b o hb nb=>?_) ⟨dx,ah,l,Eq.trans b_ (aaW (fun l=>some (HO.ins A.ic dx l)) (NH ah l)),?_,?_⟩
   · rw[de nb]
     refine s5 b o (s4 b o ?_)
     rw[de nb]
     exact Wd b o hb
   · exact((RU.same s4).same s5).off We s6
   · exact RW.off We (by show 1<2;decide) s6
open Classical in
def U1(A:Ad):Sp:=fun vs H Q _=>∃(p:Addr)(al row:List Ln)(i j:Nat)(a b:Ln),vs=[.ref p,.int i,.int j]∧EY A H p al row∧row[i]?=some a∧row[j]?=some b∧b.nm∈al.map (·.nm)∧Q (.bl (decide (Ah al a.nm b.nm))) H
open Classical in
theorem DO(T:Txt mg)(O:Ok K mg A):iw P w K mg base m_ 1 A.pz A.pA ["self","first","second"] (U1 A):=by
 refine O.rD.f.ok ux (fun vs H Q E h=>?_) (fun jL A0 outer s H vs Q E hr h=>?_)
 · obtain⟨p,al,row,i,j,a,b,rfl,_⟩:=h
   rfl
 · obtain⟨p,al,row,i,j,x,y,rfl,⟨dx,ah,l,h1,⟨kh,h2,h3⟩,⟨as,h4,h5⟩⟩,hi,hj,hy,q⟩:=h
   obtain⟨b,hb,dxb,vn,vu,vl,g1,⟨t,rfl,g2⟩,g3,g4⟩:=lj h5 hi
   obtain⟨c,hc,dxc,vn',vu',vl',k1,⟨t',rfl,k2⟩,k3,k4⟩:=lj h5 hj
   obtain⟨e,dk,z1,z2,z3⟩:=h3 y.nm hy
   have TF:(as.map V.ref)[i]?=some (.ref b):=by rw[aah,hb];rfl
   have hcj:(as.map V.ref)[j]?=some (.ref c):=by rw[aah,hc];rfl
   refine⟨_,(e_ (h_ (MH (oP (by exact il hr) (gz (iy hX (gz (pv 0) rfl) (pv 1) (fun _ _=>rfl)) rfl) (i3 (by exact il hr) (gz (pv 0) rfl) (gz (iy hX (gz (pv 0) rfl) (pv 2) (fun _ _=>rfl)) rfl) (fun _ _=>rfl)))))),?_⟩
   refine⟨_,rfl,p,A.ic,dx,_,_,rfl,h1,O.j5,O.ix,ll ah l,_,rfl,l,_,_,_,rfl,rfl,g_.of h4,iA rfl TF,b,A.hG,dxb,_,_,rfl,g1,O.iR,O.hE,i5,?_⟩
   refine⟨_,rfl,p,A.ic,dx,_,_,rfl,h1,O.j5,O.jA,EW ah l,_,rfl,p,A.ic,dx,_,_,rfl,h1,O.j5,O.ix,ll ah l,_,rfl,l,_,_,_,rfl,rfl,g_.of h4,iA rfl hcj,c,A.hG,dxc,_,_,rfl,k1,O.iR,O.hE,i5,ah,.ref e,rfl,?_,e,_,rfl,jb.t (k:=nk x.nm) z2 g2,?_⟩
   · have:=jb.t (k:=nk y.nm) h2 k2
     rw[z1] at this
     exact this
   · have e2:(iS dk (nk x.nm)).isSome=decide (Ah al x.nm y.nm):=by
       rw[abg,decide_eq_true_iff];exact z3 x.nm
     rw[e2]
     exact q
def U2(A:Ad):Sp:=fun vs H Q _=>∃(p:Addr)(al row:List Ln),vs=[.ref p]∧EY A H p al row∧(∀l∈row,l.nm∈al.map (·.nm))∧tX row.length∧∀r H' vs,gg H H'→H r=none→H' r=some (.lst vs)→iY H' (ky (Ah al) row) vs→Q (.ref r) H'
open Classical in
noncomputable def vV(lt:Nm→Nm→Prop)(row:List Ln)(i m:Nat):List (Nat×Nat):=((List.range' (i+1) m).filter fun j=>decide (¬ltAt lt row i j)).map fun j=>(i,j)
noncomputable def DP(lt:Nm→Nm→Prop)(row:List Ln)(i:Nat):List (Nat×Nat):=(List.range i).flatMap fun i=>vV lt row i (row.length-(i+1))
theorem Jr(lt:Nm→Nm→Prop)(row:List Ln):DP lt row row.length=ky lt row:=rfl
theorem A7(lt:Nm→Nm→Prop)(row:List Ln)(i:Nat):DP lt row (i+1)=DP lt row i++vV lt row i (row.length-(i+1)):=by
 unfold DP
 rw[List.range_succ,abl,aaz,abh,aaF]
theorem G4(lt:Nm→Nm→Prop)(row:List Ln)(i m:Nat)(h:¬ltAt lt row i (i+1+m)):vV lt row i (m+1)=vV lt row i m++[(i,i+1+m)]:=by
 unfold vV
 rw[show m+1=m+1 from rfl,←List.range'_append_1 (s:=i+1) (m:=m) (n:=1),aay,aaq]
 congr 1
 show List.map _ (List.filter _ [i+1+m])=_
 rw[XU (by simpa using h)]
 rfl
theorem EZ(lt:Nm→Nm→Prop)(row:List Ln)(i m:Nat)(h:ltAt lt row i (i+1+m)):vV lt row i (m+1)=vV lt row i m:=by
 unfold vV
 rw[←List.range'_append_1 (s:=i+1) (m:=m) (n:=1),aay,aaq]
 show _++List.map _ (List.filter _ [i+1+m])=_
 rw[X_ (by simpa using h)]
 simp
theorem DQ(lt:Nm→Nm→Prop)(row:List Ln)(i m:Nat):(vV lt row i m).length≤m:=by
 unfold vV
 rw[Ro]
 exact aab (aaB _ _) (by rw[List.length_range'];exact UU _)
theorem DR(lt:Nm→Nm→Prop)(row:List Ln):∀i,(DP lt row i).length≤i*row.length
 | 0=>aaE _
 | i+1=>by
   rw[A7,VJ,Nat.succ_mul]
   have:=DR lt row i
   have:=DQ lt row i (row.length-(i+1))
   omega
open Classical in
theorem rN(T:Txt mg)(O:Ok K mg A):iw P w K mg base m_ 2 A.mS A.mT ["self"] (U2 A):=by
 have wd:=DO (P:=P) (w:=w) (base:=base) T O
 refine O.jH.f.ok jF (fun vs H Q E h=>?_) (fun jL A0 outer s H vs Q E hr h=>?_)
 · obtain⟨p,al,row,rfl,_⟩:=h
   rfl
 · obtain⟨p,al,row,rfl,S,Wf,jK,q⟩:=h
   obtain⟨dx,ah,l,h1,h2,⟨as,h4,h5⟩⟩:=id S
   have hlen:=Paired.length h5
   have xV:row.length≤4000:=jK
   have sz:sizeLine=16777216:=aat
   refine⟨_,(c_ (gs (i:=1) jF.nd rfl (Or.inl rfl) (iQ d_))
     (c_ (iL PassesOwn.never rfl (lb rfl T.nj (a_ (gA gm (by rfl) T.jw aan (a_ (gz (pv 0) rfl) d_)) d_)) (gr (i:=2) jF.nd rfl (Or.inl rfl)) (e_ (iL PassesOwn.never rfl (AA rfl T.nj (a_ (gn iP (pv 2) f_) (a_ (gA gm (by rfl) T.jw aan (a_ (gz (pv 0) rfl) d_)) d_))) (gr (i:=3) jF.nd rfl (Or.inl rfl)) (e_ (iF (nB (pR (tD (pv 0) O.j5 O.rD wd hr (a_ (pv 2) (a_ (pv 3) d_))))) (e_ (hZ (qA aaJ aaS aaT kG (pv 1) (a_ (Bm (a_ (pv 2) (a_ (pv 3) d_))) d_)))) ib)))))
     (e_ (h_ (pv 1))))),?_⟩
   refine Fz ?_;intro _ _
   refine⟨L2.jK,fun r sv=>?_⟩
   have s1:gg H (upd H r (.lst [])):=(gg.refl H).new sv
   have el:((as.map V.ref).length:Int)=(row.length:Int):=by rw[Ro,hlen]
   refine⟨_,rfl,p,A.ic,dx,_,_,rfl,s1 _ _ h1,O.j5,O.ix,ll ah l,l,_,rfl,.inl (g_.of (s1 _ _ h4)),_,rfl,by omega,by omega,?_⟩
   rw[el,abv]
   refine nv (fun i σ H2=>∃(v2 v3:Option V)(vs:List V),σ=[some (.ref p),some (.ref r),v2,v3]∧gg H H2∧H2 r=some (.lst vs)∧iY H2 (DP (Ah al) row i) vs) ⟨none,none,[],rfl,s1,b_,.nil⟩ ?_ ?_
   · rintro i σ H2 hi ⟨v2,v3,vs,rfl,s2,k1,k2⟩
     rw[show(0:Int)+(i:Int)=(i:Int) by omega]
     refine⟨_,rfl,_,_,rfl,rfl,_,rfl,p,A.ic,dx,_,_,rfl,s2 _ _ h1,O.j5,O.ix,ll ah l,l,_,rfl,.inl (g_.of (s2 _ _ h4)),_,_,rfl,⟨by omega,by omega,by omega,by omega⟩,?_⟩
     rw[el,show((row.length:Int)-((i:Int)+1)).toNat=row.length-(i+1) by omega]
     refine nv (fun m σ H3=>∃(v3:Option V)(vs:List V),σ=[some (.ref p),some (.ref r),some (.int i),v3]∧gg H H3∧H3 r=some (.lst vs)∧iY H3 (DP (Ah al) row i++vV (Ah al) row i m) vs) ⟨v3,vs,rfl,s2,k1,by unfold vV;simpa using k2⟩ ?_ ?_
     · rintro m σ H3 hm ⟨v3,vs,rfl,s3,k1,k2⟩
       rw[show(i:Int)+1+(m:Int)=((i+1+m:Nat):Int) by omega]
       have hj:i+1+m<row.length:=by omega
       have ei:row[i]?=some row[i]:=UN hi
       have ej:row[i+1+m]?=some row[i+1+m]:=UN hj
       have xU:vs.length=(DP (Ah al) row i++vV (Ah al) row i m).length:=(Paired.length k2).symm
       have RX:=DR (Ah al) row i
       have Ox:=DQ (Ah al) row i m
       have hb3:i*row.length≤4000*4000:=Nat.mul_le_mul (by omega) xV
       rw[VJ] at xU
       refine⟨_,rfl,p,dx,_,rfl,s3 _ _ h1,NI ah l,_,rfl,_,rfl,p,al,row,i,i+1+m,_,_,rfl,S.same s3,ei,ej,Wf _ (List.getElem_mem hj),_,rfl,?_⟩
       have lu:ltAt (Ah al) row i (i+1+m)↔Ah al row[i].nm row[i+1+m].nm:=by
         constructor
         · rintro⟨a,b,ha,hb,z⟩
           rw[ei] at ha;rw[ej] at hb;cases ha;cases hb
           exact z
         · exact fun z=>⟨_,_,ei,ej,z⟩
       by_cases hc:Ah al row[i].nm row[i+1+m].nm
       · rw[VE hc]
         exact jU ⟨_,vs,rfl,s3,k1,by rw[EZ _ _ _ _ (lu.mpr hc)];exact k2⟩
       · rw[aaa hc]
         refine lU ?_
         refine⟨_,rfl,.inl ⟨rfl,_,g_.of k1⟩,_,rfl,_,rfl,L2.jK,fun t ht=>?_⟩
         have YZ:r≠t:=gc k1 ht
         refine⟨r,vs,_,rfl,rfl,by rw[de YZ];exact k1,by omega,?_⟩
         refine⟨_,vs++[.ref t],rfl,(s3.new ht).upd sv,b_,?_⟩
         rw[G4 _ _ _ _ (fun z=>hc (lu.mp z)),←aaM]
         refine iG (Paired.kO k2 fun a v ⟨b,e,hb⟩=>⟨b,e,?_⟩) ⟨t,rfl,?_⟩
         · rw[de (i_ hb k1 (by intro z;cases z)),de (gc hb ht)];exact hb
         · rw[de YZ.symm,b_]
     · rintro σ H3 ⟨v3,vs,rfl,s3,k1,k2⟩
       exact⟨_,_,vs,rfl,s3,k1,by rw[A7];exact k2⟩
   · rintro σ H2 ⟨v2,v3,vs,rfl,s2,k1,k2⟩
     exact⟨_,rfl,q r H2 vs s2 sv k1 (by rw[Jr] at k2;exact k2)⟩
end
theorem ES.upd{H:Hp}{v:V}{n:Option Nm}{x:Addr}{o o':HO}(h:ES H v n)(hx:H x=some o')(ht:∀xs,o'≠.tup xs):ES (L2.upd H x o) v n:=by
 cases n with
 | none=>exact h
 | some n=>exact lr.upd h hx ht
theorem mI.upd{A:Ad}{H:Hp}{a:Addr}{l:Ln}{x:Addr}{o o':HO}(h:mI A H a l)(hx:H x=some o')(ht:∀xs,o'≠.tup xs)(hi:∀C dx fs,o'≠.ins C dx fs):mI A (L2.upd H x o) a l:=by
 obtain⟨dx,vn,vu,vl,h0,h1,h2,h3⟩:=h
 exact⟨dx,vn,vu,vl,by rw[de (i_ h0 hx (fun z=>hi _ _ _ z.symm))];exact h0,h1.upd hx ht,h2.upd hx ht,h3.upd hx ht⟩
theorem zl{A:Ad}{H:Hp}{as:List Addr}{ls:List Ln}(p:Paired (mI A H) as ls){i:Nat}{l:Ln}(h:ls[i]?=some l):∃b,(as.map V.ref)[i]?=some (.ref b)∧mI A H b l:=by
 obtain⟨b,hb,z⟩:=lj p h
 exact⟨b,by rw[aah,hb];rfl,z⟩
section
variable{P:Program}{w:World}{K:PySem.W.Frag}{mg:Str→Option Value}{base:Heap}{A:Ad}
def Ao(p:Pt)(k:Nat):List (Option Nm):=p.j2.map some++(p.iH.take k).flatMap fun l=>[l.up,l.lo]
theorem named_eq(p:Pt):named p=(Ao p p.iH.length).filterMap id:=by
 unfold named Ao
 rw[aai,abp,List.filterMap_map]
 congr 1
 · induction p.j2 with
   | nil=>rfl
   | cons x r ih=>rw[abd];show _=x::_;rw[←ih]
 · induction p.iH with
   | nil=>rfl
   | cons x r ih=>
     rw[aaz,aaz,abp,ih]
     congr 1
     cases x.up<;>cases x.lo<;>rfl
theorem zm(p:Pt)(k:Nat):(Ao p k).length≤p.j2.length+2*k:=by
 unfold Ao
 rw[VJ,Ro]
 have:∀(ls:List Ln),(ls.flatMap fun l=>[l.up,l.lo]).length=2*ls.length:=fun ls=>by
   induction ls with
   | nil=>rfl
   | cons x r ih=>rw[aaz,VJ,ih];simp only [aae,List.length_nil];omega
 rw[this,aav]
 omega
def Lb(A:Ad):Sp:=fun vs H Q _=>∃(a:Addr)(p:Pt),vs=[.ref a]∧n5 A H a p∧tX p.iH.length∧tX p.j2.length∧∀r H',gg H H'→H r=none→zh H' r (named p)→Q (.ref r) H'
theorem uW(T:Txt mg)(O:Ok K mg A):iw P w K mg base m_ 1 A.pe A.pf ["patch"] (Lb A):=by
 refine O.rq.f.ok kl (fun vs H Q E h=>?_) (fun jL A0 outer s H vs Q E hr h=>?_)
 · obtain⟨a,p,rfl,_⟩:=h
   rfl
 · obtain⟨a,p,rfl,⟨dx,vf,pu,cu,vo,g1,g2,⟨as,g3,Ru⟩,⟨cs,g4,Pd⟩,g5⟩,Fd,D7,q⟩:=h
   have hlen:=Paired.length Ru
   have Mi:=Paired.length Pd
   have Mp:p.iH.length≤4000:=Fd
   have JW:p.j2.length≤4000:=D7
   have sz:sizeLine=16777216:=aat
   refine⟨_,(c_ (gs (i:=1) kl.nd rfl (Or.inl rfl) (rY ug (by rfl) T.vR abm (a_ (gz (pv 0) rfl) d_)))
     (c_ (iL PassesOwn.never rfl (iq (gz (pv 0) rfl)) (gr (i:=2) kl.nd rfl (Or.inl rfl)) (c_ (hZ (qA aaJ aaS aaT kG (pv 1) (a_ (gz (pv 2) rfl) d_)))
     (e_ (hZ (qA aaJ aaS aaT kG (pv 1) (a_ (gz (pv 2) rfl) d_))))))
     (e_ (h_ (yC o_ (fO kJ).names [3] rfl (iq (pv 1)) rfl (by decide+kernel) (fun _ _ _ _=>(gr (i:=3) kl.nd rfl (Or.inl rfl))) (fun _ _ _ _=>⟨_,nG (jn (pQ (pv 3))),by(try simp only [iu]);rfl⟩) (fun _ _ _ _=>⟨_,(pv 3),by(try simp only [iu]);rfl⟩)))))),?_⟩
   refine Fz ?_;intro _ _
   refine⟨_,rfl,a,A.hV,dx,_,_,rfl,g1,O.jt,O.jN,DG,cu,cs,rfl,.inl (g_.of g4),fun l hl=>?_⟩
   have s1:gg H (upd H l (.lst cs)):=(gg.refl H).new hl
   refine⟨_,rfl,a,A.hV,dx,_,_,rfl,s1 _ _ g1,O.jt,O.jM,DE,pu,rfl,⟨_,g_.of (s1 _ _ g3)⟩,i0 (K:=K) (a:=pu) (xs:=as.map V.ref) (fun i σ H2=>∃(v:Option V)(xs:List V),σ=[some (.ref a),some (.ref l),v,none]∧gg H H2∧H2 l=some (.lst xs)∧Paired (ES H) xs (Ao p i))
     ⟨none,cs,rfl,s1,b_,?_⟩ (fun i σ H2 _ ⟨_,_,_,s2,_⟩=>g_.of (s2 _ _ g3)) ?_ ?_⟩
   · unfold Ao
     rw[aa9,abh,aaF]
     clear Mi JW D7 q g4 s1
     generalize p.j2=ms at Pd
     induction Pd with
     | nil=>exact .nil
     | cons f t ih=>exact .cons f ih
   · rintro i v σ H2 hx ⟨v0,xs,rfl,s2,h1,h2⟩
     obtain⟨b,hb,rfl⟩:=j7 hx
     obtain⟨ln,xU,Pl,vn,vu,vl,k1,k2,k3,k4⟩:=iC Ru hb
     have hi:i<p.iH.length:=(Rt.mp xU).1
     have hxl:xs.length≤p.j2.length+2*i:=by rw[Paired.length h2];exact zm p i
     have e:Ao p (i+1)=Ao p i++[ln.up]++[ln.lo]:=by
       unfold Ao
       rw[take_snoc xU,abl,aaz,abh,aaM,aaM]
       rfl
     refine⟨_,rfl,.inl ⟨rfl,_,g_.of h1⟩,_,rfl,b,A.hG,Pl,_,_,rfl,s2 _ _ k1,O.iR,O.iI,ET,l,_,_,rfl,rfl,h1,by omega,?_⟩
     have s3:gg H (upd H2 l (.lst (xs++[vu]))):=s2.upd hl
     refine⟨_,rfl,.inl ⟨rfl,_,g_.of b_⟩,_,rfl,b,A.hG,Pl,_,_,rfl,s3 _ _ k1,O.iR,O.iJ,EU,l,_,_,rfl,rfl,b_,by rw[VJ];show xs.length+1<_;omega,?_⟩
     refine⟨_,_,rfl,s3.upd hl,b_,?_⟩
     rw[e]
     exact iG (iG h2 k3) k4
   · rintro σ H2 ⟨v0,xs,rfl,s2,h1,h2⟩
     have e0:(as.map V.ref).length=p.iH.length:=by rw[Ro,hlen]
     rw[e0] at h2
     have hxl:xs.length≤p.j2.length+2*p.iH.length:=by rw[Paired.length h2];exact zm p _
     refine⟨_,rfl,l,rfl,⟨_,g_.of h1⟩,jP (K:=K) (a:=l) (xs:=xs) (by omega) (fun i ys σ H4=>∃(v3:Option V),σ=[some (.ref a),some (.ref l),v0,v3]∧H4=H2∧ys.length≤i∧Paired (lr H) ys (((Ao p p.iH.length).take i).filterMap id))
       ⟨none,rfl,rfl,UU _,.nil⟩ (fun i ys σ H4 _ ⟨_,_,e,e3,_⟩=>by subst e;exact⟨g_.of h1,e3⟩) ?_ ?_⟩
     · rintro i v ys σ H4 hx ⟨v3,rfl,rfl,e3,h6⟩
       obtain⟨o,ho,hv⟩:=iC h2 hx
       refine⟨_,rfl,_,rfl,?_⟩
       rw[take_snoc ho,abp]
       cases o with
       | none=>
         rw[show v=V.jx from hv]
         exact⟨_,rfl,rfl,by omega,by simpa using h6⟩
       | some m=>
         obtain⟨t,rfl,ht⟩:=(show lr H v m from hv)
         exact⟨_,rfl,_,rfl,rfl,L3,iG h6 ⟨t,rfl,ht⟩⟩
     · rintro ys σ H4 ⟨v3,rfl,rfl,e3,h6⟩ r sv
       rw[Paired.length h2,aai,←named_eq] at h6
       have s5:=s2.new (o:=.lst ys) sv
       exact q r _ s5 (s2.free sv) ⟨ys,b_,Paired.kO h6 fun _ _ z=>z.same s5⟩
def NJ(A:Ad):Sp:=fun vs H Q _=>∃(a:Addr)(p:Pt),vs=[.ref a]∧n5 A H a p∧tX p.iH.length∧tX p.j2.length∧∀r H',gg H H'→H r=none→H' r=some (.lst (gi (iN p)))→Q (.ref r) H'
theorem A8(p:Pt):(named p).length≤p.j2.length+2*p.iH.length:=by
 rw[named_eq]
 exact aab (List.length_filterMap_le _ _) (zm p _)
theorem rO(T:Txt mg)(O:Ok K mg A):iw P w K mg base m_ 2 A.mQ A.mR ["patch"] (NJ A):=by
 have we:=uW (P:=P) (w:=w) (base:=base) T O
 refine O.oJ.f.ok kB (fun vs H Q E h=>?_) (fun jL A0 outer s H vs Q E hr h=>?_)
 · obtain⟨a,p,rfl,_⟩:=h
   rfl
 · obtain⟨a,p,rfl,pa,Fd,D7,q⟩:=h
   obtain⟨dx,vf,pu,cu,vo,g1,g2,g3,g4,g5⟩:=id pa
   have Mp:p.iH.length≤4000:=Fd
   have JW:p.j2.length≤4000:=D7
   have sz:sizeLine=16777216:=aat
   have JU:=A8 p
   refine⟨_,(c_ (vp (j:=1) mO (fO jR).names [2] kB.nd rfl rfl rfl (iq (pN O.rq we hr (a_ (pv 0) d_))) rfl (by decide+kernel) (fun _ _ _ _=>(gr (i:=2) kB.nd rfl (Or.inl rfl))) (fun _ _ _ _=>⟨_,nG (ij Ft (iy yv (pv 2) f_ (fun _ _=>rfl)) (gz (pv 0) rfl) (iD _)),by(try simp only [iu]);rfl⟩) (fun _ _ _ _=>⟨_,iy yv (pv 2) f_ (fun _ _=>rfl),by(try simp only [iu]);rfl⟩))
     (c_ (iF (jn (pQ (gz (pv 0) rfl))) (e_ (hZ (qA aaJ aaS aaT kG (pv 1) (a_ (gz (pv 0) rfl) d_)))) ib)
     (e_ (h_ (pv 1))))),?_⟩
   refine Fz ?_;intro _ _
   refine⟨_,rfl,a,p,rfl,pa,Fd,D7,fun n H1 s1 hn0 ⟨ns,Y0,Oa⟩=>?_⟩
   have Wg:=Paired.length Oa
   refine⟨n,rfl,⟨_,g_.of Y0⟩,jP (K:=K) (a:=n) (xs:=ns) (by omega) (fun i ys σ H4=>∃(v2:Option V)(zs:List Str),σ=[some (.ref a),none,v2]∧H4=H1∧ys=gi zs∧zs.length≤i∧zs=(((named p).take i).filter fun n=>n.1≠p.nm).map (·.1))
     ⟨none,[],rfl,rfl,rfl,UU _,rfl⟩ (fun i ys σ H4 _ ⟨_,zs,_,e,e2,e3,_⟩=>by subst e e2;exact⟨g_.of Y0,by rw[Ro];exact e3⟩) ?_ ?_⟩
   · rintro i v ys σ H4 hx ⟨v2,zs,rfl,rfl,rfl,e3,e4⟩
     obtain⟨m,hm,t,rfl,ht⟩:=iC Oa hx
     have TH:CV ((nk m).map kV) 0=some (V.str m.1):=iA (j:=0) rfl rfl
     refine⟨_,rfl,t,_,0,_,rfl,rfl,u_.of ht,TH,_,rfl,a,A.hV,dx,_,_,rfl,s1 _ _ g1,O.jt,O.iZ,rH,rfl,_,rfl,?_⟩
     have ed:decide (V.str m.1=V.str p.nm)=decide (m.1=p.nm):=by
       by_cases e:m.1=p.nm
       · rw[VE e,VE (aaW V.str e)]
       · rw[aaa e,aaa fun z=>e (V.str.inj z)]
     rw[ed]
     subst e4
     by_cases e:m.1=p.nm
     · rw[VE e]
       refine jU ⟨_,_,rfl,rfl,rfl,by omega,?_⟩
       rw[take_snoc hm,aay,X_ (by simpa using e)]
       simp
     · rw[aaa e]
       refine lU ⟨_,rfl,t,_,0,_,rfl,rfl,u_.of ht,TH,_,_,rfl,rfl,iW _ _,by rw[VJ];show _+1≤_;omega,?_⟩
       rw[take_snoc hm,aay,XU (by simpa using e)]
       simp
   · rintro ys σ H4 ⟨v2,zs,rfl,rfl,rfl,e3,e4⟩ r sv
     rw[Wg,aai] at e4
     have s5:=s1.new (o:=.lst (gi zs)) sv
     refine⟨_,rfl,a,A.hV,dx,_,_,rfl,s5 _ _ g1,O.jt,O.i4,si,_,rfl,?_⟩
     unfold iN at q
     rw[←e4] at q
     cases ho:p.other with
     | none=>
       rw[ho] at g5 q
       rw[show vo=V.jx from g5]
       exact⟨_,rfl,q r _ s5 (s1.free sv) (by rw[b_];simp)⟩
     | some x=>
       rw[ho] at g5 q
       rw[show vo=V.str x from g5] at g1 ⊢
       refine⟨_,rfl,.inl ⟨rfl,_,g_.of b_⟩,_,rfl,a,A.hV,dx,_,_,rfl,s5 _ _ g1,O.jt,O.i4,si,r,_,_,rfl,rfl,b_,by rw[Ro];omega,?_⟩
       exact⟨_,rfl,q r _ (s5.upd (s1.free sv)) (s1.free sv) (by rw[b_];show _=some (HO.lst (gi (zs++[x])));rw[←iW])⟩
end
def QF(H:Hp)(a:Addr)(kn:Nat→Option Nm):Prop:=∃kvs:List (Key×V),H a=some (.dK kvs)∧∀s:Nat,match kn s with|some m=>∃v,iS kvs (Sum.inl (s:Int))=some v∧lr H v m|none=>iS kvs (Sum.inl (s:Int))=none
section
variable{P:Program}{w:World}{K:PySem.W.Frag}{mg:Str→Option Value}{base:Heap}{A:Ad}
def U3:Sp:=fun vs H Q _=>∃(a:Addr)(n:Nat)(kn:Nat→Option Nm),vs=[.ref a,.int n]∧QF H a kn∧n≤4000∧∀p H' xs,gg H H'→H p=none→H' p=some (.lst xs)→xs.length=n→(∀i v,xs[i]?=some v→ES H v (KZ kn (n-1-i) i))→Q (.ref p) H'
theorem zo(T:Txt mg)(O:Ok K mg A):iw P w K mg base m_ 1 A.sQ A.sR ["kept_names","size"] U3:=by
 refine O.xt.f.ok nR (fun vs H Q E h=>?_) (fun jL A0 outer s H vs Q E hr h=>?_)
 · obtain⟨a,n,kn,rfl,_⟩:=h
   rfl
 · obtain⟨a,n,kn,rfl,⟨kvs,h1,h2⟩,hn,q⟩:=h
   have sz:sizeLine=16777216:=aat
   refine⟨_,(c_ (gs (i:=2) nR.nd rfl (Or.inl rfl) (gn Ez (iQ (a_ sZ d_)) (pv 1)))
     (c_ (iL PassesOwn.never rfl (vq rfl T.nj (a_ (gn ym (pv 1) f_) (a_ (qP nE f_) (a_ (qP nE f_) d_)))) (gr (i:=3) nR.nd rfl (Or.inl rfl)) (e_ (Bk (H_ (by exact il hr) (pv 0) (gn iP (pv 3) f_) (iy hX (pv 2) (gn iP (pv 3) f_) (fun _ _=>rfl)) ⟨rfl,rfl,rfl,rfl⟩) (Bj (pv 2) (pv 3) set_list))))
     (e_ (h_ (pv 2))))),?_⟩
   refine Fz ?_;intro _ _
   refine⟨L2.jK,fun l hl=>?_⟩
   refine⟨_,rfl,l,_,_,rfl,rfl,b_,by omega,by omega,by simp;omega,fun p hp=>?_⟩
   have pM:p≠l:=fun z=>by rw[z,b_] at hp;cases hp
   have Fc:H p=none:=by rw[de pM] at hp;exact hp
   have e0:(List.replicate (n:Int).toNat [V.jx]).flatten=List.replicate n V.jx:=by
     rw[abv]
     clear q hn
     induction n with
     | zero=>rfl
     | succ n ih=>rw[aa1,abw,ih,aa1];rfl
   rw[e0]
   have s1:gg H (upd (upd H l (.lst [V.jx])) p (.lst (List.replicate n V.jx))):=((gg.refl H).upd hl).upd Fc
   refine⟨_,rfl,_,_,rfl,rfl,_,rfl,_,rfl,_,_,rfl,⟨by omega,by omega,by omega,by omega⟩,?_⟩
   rw[show((n:Int)-2 - -1).toNat=n-1 by omega]
   refine tq (fun m σ H2=>∃(v:Option V)(xs:List V),σ=[some (.ref a),some (.int n),some (.ref p),v]∧gg H H2∧H2 p=some (.lst xs)∧xs.length=n∧∀i v,xs[i]?=some v→n-1≤i+m→ES H v (KZ kn (n-1-i) i)) ⟨none,_,rfl,s1,b_,by simp,fun i v hv hi=>?_⟩ ?_ ?_
   · have lu:i<n:=by have:=(Rt.mp hv).1;simpa using this
     have:v=V.jx:=by
       have:=UT hv
       exact List.eq_of_mem_replicate this
     rw[this,show n-1-i=0 by omega]
     exact rfl
   · rintro m σ H2 hm ⟨v0,xs,rfl,s2,k1,k2,k3⟩
     obtain⟨j,hj⟩:∃j,j+m+2=n:=⟨n-2-m,by omega⟩
     rw[show(n:Int)-2+(m:Int) * -1=(j:Int) by omega]
     have hx:xs[j+1]?=some xs[j+1]:=UN (by omega)
     refine⟨_,rfl,a,rfl,.inl ⟨_,.inl (s2 _ _ h1)⟩,_,rfl,_,_,rfl,rfl,_,rfl,_,rfl,_,_,rfl,rfl,p,_,_,_,rfl,rfl,g_.of k1,iA (j:=j+1) (by omega) hx,_,jb.k (k:=Sum.inl ((j:Int)+1)) (s2 _ _ h1),?_⟩
     refine⟨_,rfl,_,rfl,p,_,_,j,rfl,rfl,k1,Bz rfl (by omega),?_⟩
     refine⟨_,_,rfl,s2.upd Fc,b_,by rw[abV];exact k2,fun i v hv hi=>?_⟩
     by_cases e:i=j
     · subst e
       rw[aa4 (by omega)] at hv
       have hv:=aau hv
       rw[←hv,show n-1-i=(n-1-(i+1))+1 by omega]
       unfold KZ
       have h3:=h2 (i+1)
       rw[show((i+1:Nat):Int)=(i:Int)+1 by omega] at h3
       cases hk:kn (i+1) with
       | none=>
         rw[hk] at h3
         rw[h3]
         exact k3 (i+1) _ hx (by omega)
       | some mm=>
         rw[hk] at h3
         obtain⟨u,z1,z2⟩:=h3
         rw[z1]
         exact z2
     · rw[abb (fun z=>e z.symm)] at hv
       exact k3 i v hv (by omega)
   · rintro σ H2 ⟨v0,xs,rfl,s2,k1,k2,k3⟩
     exact⟨_,rfl,q p H2 xs s2 Fc k1 k2 fun i v hv=>k3 i v hv (by omega)⟩
def U4(K:PySem.W.Frag)(A:Ad):Sp:=fun vs H Q _=>∃(x:Str)(t a:Addr)(texts:List Str)(kn:Nat→Option Nm),vs=[.str x,.ref t,.ref a]∧g_ K H t (gi texts)∧(∀H',gg H H'→g_ K H' t (gi texts))∧QF H a kn∧texts.length≤4000∧∀p H',gg H H'→H p=none→ql A H' p (kA x texts kn)→Q (.ref p) H'
theorem B4(T:Txt mg)(O:Ok K mg A):iw P w K mg base m_ 3 A.wU A.wV ["patch","texts","kept_names"] (U4 K A):=by
 have Aw:=zo (P:=P) (w:=w) (base:=base) T O
 have xW:=B3 (P:=P) (w:=w) (base:=base) T O
 refine O.AX.f.ok jG (fun vs H Q E h=>?_) (fun jL A0 outer s H vs Q E hr h=>?_)
 · obtain⟨x,t,a,texts,kn,rfl,_⟩:=h
   rfl
 · obtain⟨x,t,a,texts,kn,rfl,_,ht,Y1,hn,q⟩:=h
   have sz:sizeLine=16777216:=aat
   have et:((gi texts).length:Int)=(texts.length:Int):=by simp
   obtain⟨kvs,h1,h2⟩:=id Y1
   refine⟨_,(c_ (gs (i:=3) jG.nd rfl (Or.inl rfl) (pN O.xt Aw hr (a_ (pv 2) (a_ (gA gm (by rfl) T.jw aan (a_ (pv 1) d_)) d_))))
     (c_ (gs (i:=4) jG.nd rfl (Or.inl rfl) (iQ d_))
     (c_ (gs (i:=5) jG.nd rfl (Or.inl rfl) sZ)
     (c_ (iL PassesOwn.never rfl (KR rfl T.Dx (a_ (pv 1) d_)) (HH rfl (t_ (gr (i:=6) jG.nd rfl (Or.inl rfl)) (t_ (gr (i:=7) jG.nd rfl (Or.inl rfl)) Fo))) (e_ (iF (jn (oP (by exact il hr) (pv 6) (pv 2))) (e_ (gs (i:=5) jG.nd rfl (Or.inl rfl) (i3 (by exact il hr) (pv 2) (pv 6) (fun _ _=>rfl)))) (c_ (hZ (qA aaJ aaS aaT kG (pv 4) (a_ (ue O.Nv xW (hr.mono (by decide)) (by rfl) O.Nw O.sU.b .nil oa (a_ (Bm (a_ (pv 0) (a_ (gA gm (by rfl) T.jw aan (a_ (pv 4) d_)) d_))) (a_ (pv 7) (a_ (pv 5) (a_ (iy hX (pv 3) (pv 6) (fun _ _=>rfl)) d_))))) d_)))
     (e_ (gs (i:=5) jG.nd rfl (Or.inl rfl) (gz (iy hX (pv 4) (qP nE f_) (fun _ _=>rfl)) rfl)))))))
     (e_ (h_ (pv 4))))))),?_⟩
   refine Qd ?_;intro _ _ _ _
   refine⟨_,rfl,_,rfl,t,_,rfl,.inl (ht H (gg.refl H)),?_⟩
   rw[et]
   refine⟨a,texts.length,kn,rfl,Y1,hn,fun b H1 bs s1 Mq RX Mg RF=>?_⟩
   refine⟨L2.jK,fun l hl=>?_⟩
   have VL:H l=none:=s1.free hl
   have s2:gg H1 (upd H1 l (.lst [])):=(gg.refl H1).new hl
   refine⟨_,rfl,t,rfl,⟨_,ht _ (s1.trans s2)⟩,IS (K:=K) (a:=t) (xs:=gi texts) (fun i σ H2=>∃(v6 v7:Option V)(vu:V)(u:Option Nm)(as:List Addr)(acc:List Ln),σ=[some (.str x),some (.ref t),some (.ref a),some (.ref b),some (.ref l),some vu,v6,v7]∧gg H1 H2∧H2 l=some (.lst (as.map V.ref))∧Paired (mI A H2) as acc∧acc.length≤i∧ES H2 vu u∧acc++sC x kn i acc.length u (texts.drop i)=kA x texts kn)
     ⟨none,none,.jx,none,[],[],rfl,s2,b_,.nil,UU _,rfl,rfl⟩ (fun i σ H2 _ ⟨_,_,_,_,_,_,_,s3,_⟩=>ht _ (s1.trans s3)) ?_ ?_⟩
   · rintro i tv e σ H2 hx ⟨v6,v7,vu,u,as,acc,rfl,s3,k1,k2,k3,k4,k5⟩ he
     obtain⟨tx,Y2,rfl⟩:=jQ hx
     have hi:i<texts.length:=(Rt.mp Y2).1
     have hd:texts.drop i=tx::texts.drop (i+1):=by rw[aaI hi];congr 1;exact(Rt.mp Y2).2
     have s4:gg H2 (upd H2 e (.tup [.int i,.str tx])):=(gg.refl H2).new he
     have wg:=s3.trans s4
     rw[hd] at k5
     unfold sC at k5
     refine⟨e,_,rfl,u_.of b_,rfl,_,_,rfl,_,_,rfl,rfl,?_⟩
     refine⟨_,rfl,_,rfl,a,_,rfl,jb.k (k:=Sum.inl (i:Int)) (wg _ _ (s1 _ _ h1)),_,rfl,?_⟩
     have h3:=h2 i
     cases hk:kn i with
     | some m=>
       rw[hk] at h3 k5
       obtain⟨u',z1,z2⟩:=h3
       rw[z1]
       refine lU ⟨_,rfl,_,rfl,a,u',rfl,?_,?_⟩
       · have:=jb.k (k:=Sum.inl (i:Int)) (wg _ _ (s1 _ _ h1))
         rw[z1] at this
         exact this
       · exact⟨_,_,_,some m,as,acc,rfl,wg,s4 _ _ k1,Paired.kO k2 fun _ _ z=>z.same s4,by omega,(z2.same s1).same wg,k5⟩
     | none=>
       rw[hk] at h3 k5
       rw[h3]
       have Wf:=Paired.length k2
       have el:((as.map V.ref).length:Int)=(acc.length:Int):=by rw[Ro,Wf]
       refine jU ⟨_,rfl,.inl ⟨rfl,_,g_.of (s4 _ _ k1)⟩,_,rfl,_,rfl,l,_,rfl,.inl (g_.of (s4 _ _ k1)),?_⟩
       rw[el]
       refine⟨L2.jK,fun nt Y3=>?_⟩
       have s5:=wg.new (o:=.tup [.str x,.int acc.length]) Y3
       obtain⟨bv,Y4⟩:∃bv,bs[i]?=some bv:=⟨_,UN (by omega)⟩
       refine⟨_,rfl,_,rfl,_,rfl,_,rfl,b,_,_,_,rfl,rfl,g_.of (s5 _ _ RX),iA rfl Y4,?_⟩
       intro o dx no OC Wh
       have Pm:gg (upd (upd H2 e (.tup [.int i,.str tx])) nt (.tup [.str x,.int acc.length])) (upd (upd (upd (upd H2 e (.tup [.int i,.str tx])) nt (.tup [.str x,.int acc.length])) dx (.own o)) o (.ins A.hG dx [])):=fun c u e=>by
         rw[de (gc e no),de (gc e OC)]
         exact e
       refine⟨o,dx,_,_,_,_,rfl,b_,fun H6 r6 r7=>⟨rfl,?_⟩⟩
       have s6:gg (upd (upd H2 e (.tup [.int i,.str tx])) nt (.tup [.str x,.int acc.length])) H6:=fun c u ec=>by
         rw[r6 c (gc ec no)]
         exact Pm c u ec
       have RY:gg H2 H6:=(s4.new Y3).trans s6
       have RZ:=RY _ _ k1
       have Kv:mI A H6 o ⟨(x,acc.length),tx,u,KZ kn (texts.drop (i+1)).length i⟩:=⟨dx,.ref nt,vu,bv,r7,⟨nt,rfl,s6 _ _ b_⟩,k4.same RY,by
         have:=RF i bv Y4
         rw[List.length_drop,show texts.length-(i+1)=texts.length-1-i by omega]
         exact(this.same s1).same (s3.trans RY)⟩
       refine⟨l,_,_,rfl,rfl,RZ,by rw[Ro];omega,?_⟩
       have lo:l≠o:=fun z=>by rw[z,r7] at RZ;cases RZ
       have e7:upd H6 l (.lst (as.map V.ref++[V.ref o])) l=some (.lst ((as++[o]).map V.ref)):=by rw[b_,aaq];rfl
       have up:∀c ln,mI A H6 c ln→mI A (upd H6 l (.lst (as.map V.ref++[V.ref o]))) c ln:=fun c ln z=>z.upd RZ (fun _ z=>by cases z) (fun _ _ _ z=>by cases z)
       have r77:upd H6 l (.lst (as.map V.ref++[V.ref o])) o=some (.ins A.hG dx (K4 (.ref nt) (.str tx) vu bv)):=by rw[de lo.symm];exact r7
       refine⟨_,rfl,_,rfl,l,_,_,_,rfl,rfl,g_.of b_,yu _ _,o,A.hG,dx,_,_,rfl,r77,O.iR,O.hE,i5,?_⟩
       refine⟨_,_,_,some (x,acc.length),as++[o],acc++[⟨(x,acc.length),tx,u,KZ kn (texts.drop (i+1)).length i⟩],rfl,(s3.trans RY).upd hl,e7,?_,L3,?_,?_⟩
       · exact iG (Paired.kO k2 fun c ln z=>up c ln (z.same RY)) (up _ _ Kv)
       · exact lr.upd ⟨nt,rfl,s6 _ _ b_⟩ RZ (fun _ z=>by cases z)
       · rw[aaM,VJ]
         exact k5
   · rintro σ H2 ⟨v6,v7,vu,u,as,acc,rfl,s3,k1,k2,k3,k4,k5⟩
     rw[show(gi texts).length=texts.length by simp,abT] at k5
     rw[show sC x kn texts.length acc.length u []=[] from rfl,aaF] at k5
     rw[k5] at k2
     exact⟨_,rfl,q l H2 (s1.trans s3) VL ⟨as,k1,k2⟩⟩
end
theorem FO{row:List Ln}{q:Nat×Nat}:∀{xs:List (Nat×Nat)},q.2∉xs.map (·.2)→∀s,mz row (xs++[q]) s=if q.2=s then(row[q.1]?).map (·.nm) else mz row xs s
 | [],_,s=>rfl
 | x::r,h,s=>by
   rw[aas] at h
   have h1:q.2≠x.2:=fun z=>h (by rw[z];exact aal)
   have h2:q.2∉r.map (·.2):=fun z=>h (aaf _ z)
   show(if x.2=s then _ else mz row (r++[q]) s)=if q.2=s then _ else(if x.2=s then _ else mz row r s)
   by_cases e:x.2=s
   · rw[aar e,aak (fun z=>h1 (by rw[z,e])),aar e]
   · rw[aak e,aak e,FO h2 s]
theorem G5{row:List Ln}{q:Nat×Nat}{l:Ln}(xs:List (Nat×Nat))(h:row[q.1]?=some l):tE row (xs++[q])=tE row xs++[l.nm]:=by
 unfold tE
 rw[abp,abd,h]
 rfl
section
variable{P:Program}{w:World}{K:PySem.W.Frag}{mg:Str→Option Value}{base:Heap}{A:Ad}
theorem Js(T:Txt mg)(O:Ok K mg A):iw P w K mg base m_ 3 A.Jb A.Jc ["old","new"] Kp.Yb:=
 Kp.K_ O.kept.f ⟨T.jw,T.nj,T.Qo⟩ O.rn.f O.rn.b O.rn.m O.tK.f O.tK.b O.tK.m O.tL.f O.tL.b O.tL.m
def QG(A:Ad):Sp:=fun vs H Q _=>∃(x f:Str)(r t:Addr)(row:List Ln)(texts:List Str),vs=[.str x,.str f,.ref r,.ref t]∧ql A H r row∧H t=some (.lst (gi texts))∧row.length≤1000∧texts.length≤1000∧
 ∀p H',gg H H'→H p=none→n5 A H' p (mj x f row texts)→Q (.ref p) H'
theorem uX(T:Txt mg)(O:Ok K mg A):iw P w K mg base m_ 4 A.pB A.pC ["patch","file","row","texts"] (QG A):=by
 have OD:=Js (P:=P) (w:=w) (base:=base) T O
 have D8:=B4 (P:=P) (w:=w) (base:=base) T O
 have jX:=oV (P:=P) (w:=w) (base:=base) T O
 refine O.rE.f.ok iO (fun vs H Q E h=>?_) (fun jL A0 outer s H vs Q E hr h=>?_)
 · obtain⟨x,f,r,t,row,texts,rfl,_⟩:=h
   rfl
 · obtain⟨x,f,r,t,row,texts,rfl,D5,ht,hn,hm,q⟩:=h
   obtain⟨as,Ax,Ef⟩:=id D5
   have hlen:=Paired.length Ef
   have sz:sizeLine=16777216:=aat
   refine⟨_,(c_ (gs (i:=4) iO.nd rfl (Or.inl rfl) nF)
     (c_ (gs (i:=5) iO.nd rfl (Or.inr rfl) mf)
     (c_ (iL PassesOwn.never rfl (iq (pN O.kept OD hr (a_ (uh l4 (fO jV).names [9] rfl (iq (pv 2)) rfl (by decide+kernel) (fun _ _ _ _=>(gr (i:=9) iO.nd rfl (Or.inl rfl))) (fun _ _ _ _=>mx) (fun _ _ _ _=>⟨_,gz (pv 9) rfl,by(try simp only [iu]);rfl⟩)) (a_ (pv 3) d_)))) (HH rfl (t_ (gr (i:=6) iO.nd rfl (Or.inl rfl)) (t_ (gr (i:=7) iO.nd rfl (Or.inl rfl)) Fo))) (c_ (jB (by exact il hr) (pv 4) (pv 7) (gz (iy hX (pv 2) (pv 6) (fun _ _=>rfl)) rfl) rfl)
     (e_ (jB (by exact il hr) (pv 5) (gz (iy hX (pv 2) (pv 6) (fun _ _=>rfl)) rfl) kS rfl))))
     (c_ (vp (j:=8) l4 (fO jV).names [9] iO.nd rfl rfl rfl (iq (pv 2)) rfl (by decide+kernel) (fun _ _ _ _=>(gr (i:=9) iO.nd rfl (Or.inl rfl))) (fun _ _ _ _=>⟨_,nG (jn (lg (by exact il hr) (gz (pv 9) rfl) (pv 5))),by(try simp only [iu]);rfl⟩) (fun _ _ _ _=>⟨_,gz (pv 9) rfl,by(try simp only [iu]);rfl⟩))
     (e_ (h_ (ue O.BS jX (hr.mono (by decide)) (by rfl) O.BU O.lN.b .nil oa (a_ (pv 0) (a_ (pv 1) (a_ (pN O.AX D8 hr (a_ (pv 0) (a_ (pv 3) (a_ (pv 4) d_)))) (a_ (pv 8) (a_ sZ d_)))))))))))),?_⟩
   refine Qd ?_;intro _ _ _ _
   intro k Mr g TJ
   have Wi:k≠g:=fun z=>by rw[←z,b_] at TJ;cases TJ
   have Y5:H g=none:=(gg.refl H |>.new (o:=.dK []) Mr).free TJ
   have s1:gg H (upd (upd H k (.dK [])) g (.dT [])):=((gg.refl H).new Mr).new TJ
   have R0:(upd (upd H k (.dK [])) g (.dT [])) k=some (.dK []):=by rw[de Wi];exact b_
   have O7:(upd (upd H k (.dK [])) g (.dT [])) g=some (.dT []):=b_
   generalize upd (upd H k (.dK [])) g (.dT [])=H1 at s1 R0 O7
   have Oy:(as.map V.ref).length≤sizeLine:=by rw[Ro,hlen];omega
   refine⟨_,rfl,r,rfl,⟨_,g_.of (s1 _ _ Ax)⟩,jP (K:=K) (a:=r) (xs:=as.map V.ref) Oy (fun i ys σ H4=>∃(v9:Option V),σ=[some (.str x),some (.str f),some (.ref r),some (.ref t),some (.ref k),some (.ref g),none,none,none,v9]∧H4=H1∧ys=gi ((row.take i).map (·.tx)))
     ⟨none,rfl,rfl,rfl⟩ (fun i ys σ H4 _ ⟨_,_,e,e2⟩=>by subst e e2;exact⟨g_.of (s1 _ _ Ax),by rw[Ro,Ro,aav];omega⟩) ?_ ?_⟩
   · rintro i v ys σ H4 hx ⟨v9,rfl,rfl,rfl⟩
     obtain⟨b,hb,rfl⟩:=j7 hx
     obtain⟨ln,xU,dx,vn,vu,vl,k1,k2,k3,k4⟩:=iC Ef hb
     refine⟨_,rfl,b,A.hG,dx,_,_,rfl,s1 _ _ k1,O.iR,O.jI,zg,_,rfl,rfl,?_⟩
     rw[take_snoc xU,aaq,iW]
     rfl
   · rintro ys σ H4 ⟨v9,rfl,rfl,rfl⟩ o TK
     rw[Ro,hlen,aai]
     have s2:gg H4 (upd H4 o (.lst (gi (row.map (·.tx))))):=(gg.refl H4).new TK
     refine⟨_,rfl,row.map (·.tx),texts,o,t,rfl,b_,s2 _ _ (s1 _ _ ht),by rw[Ro];exact hn,hm,fun pr H5 ps s5 Hq R1 OE=>?_⟩
     have R3:gg H4 H5:=s2.trans s5
     have Y6:gg H H5:=s1.trans R3
     have rise:=r_ (row.map (·.tx)) texts
     rw[Ro] at rise
     have Wj:(K01.kept (row.map (·.tx)) texts).length≤1000:=by
       rw[K01.wD]
       have:=K01.De (row.map (·.tx)) texts
       rw[Ro] at this
       omega
     generalize hqs:K01.kept (row.map (·.tx)) texts=qs at OE rise Wj
     have Mo:=Paired.length OE
     refine⟨pr,rfl,⟨_,g_.of R1⟩,i0 (K:=K) (a:=pr) (xs:=ps) (fun i σ H6=>∃(v6 v7:Option V)(kk:List (Key×V))(kg:List (List Key×V)),σ=[some (.str x),some (.str f),some (.ref r),some (.ref t),some (.ref k),some (.ref g),v6,v7,none,none]∧(∀b o,H5 b=some o→b≠k→b≠g→H6 b=some o)∧H6 k=some (.dK kk)∧kk.length≤i∧(∀s:Nat,match mz row (qs.take i) s with|some m=>∃v,iS kk (Sum.inl (s:Int))=some v∧lr H v m|none=>iS kk (Sum.inl (s:Int))=none)∧H6 g=some (.dT kg)∧kg.length≤i∧O2 kg (tE row (qs.take i)))
       ⟨none,none,[],[],rfl,fun b o e _ _=>e,R3 _ _ R0,UU _,(fun s=>by rw[aa9];exact rfl),R3 _ _ O7,UU _,(fun n=>rfl)⟩ (fun i σ H6 _ ⟨_,_,_,_,_,e,_⟩=>g_.of (e _ _ R1 (fun z=>by rw[z] at Hq;rw[s2 _ _ R0] at Hq;cases Hq) (fun z=>by rw[z] at Hq;rw[s2 _ _ O7] at Hq;cases Hq))) ?_ ?_⟩
     · rintro i v σ H6 hx ⟨v6,v7,kk,kg,rfl,e1,e2,e3,e4,e5,e6,e7⟩
       obtain⟨qq,hq,pt,rfl,Kg⟩:=lj OE hx
       have Wk:H5 k=some (.dK []):=R3 _ _ R0
       have Wl:H5 g=some (.dT []):=R3 _ _ O7
       have hi:i<qs.length:=(Rt.mp hq).1
       obtain⟨RX,Ox⟩:=rise.2 qq (UT hq)
       obtain⟨b,TF,Y7⟩:=zl Ef (UN RX)
       have Ee:row[qq.1]?=some row[qq.1]:=UN RX
       generalize row[qq.1]=ln at Y7 Ee
       obtain⟨dx,vn,vu,vl,z1,⟨nt,rfl,z2⟩,z3,z4⟩:=Y7
       have up:∀{b o},H b=some o→H6 b=some o:=fun{b o} e=>e1 b o (Y6 _ _ e) (fun z=>by rw[z,Mr] at e;cases e) (fun z=>by rw[z,Y5] at e;cases e)
       refine⟨pt,_,rfl,u_.of (e1 _ _ Kg (i_ Kg Wk (fun z=>by cases z)) (i_ Kg Wl (fun z=>by cases z))),rfl,_,_,rfl,_,_,rfl,rfl,?_⟩
       refine⟨_,rfl,_,rfl,r,_,_,_,rfl,rfl,g_.of (up Ax),iA rfl TF,b,A.hG,dx,_,_,rfl,up z1,O.iR,O.hE,i5,_,rfl,_,rfl,k,_,rfl,mY.k (k:=Sum.inl (qq.2:Int)) e2 (by omega),?_⟩
       have Wm:∀{b o},H b=some o→upd H6 k (.dK (putK kk (Sum.inl (qq.2:Int)) (V.ref nt))) b=some o:=fun{b o} e=>by rw[de (fun z=>by rw[z,Mr] at e;cases e)];exact up e
       have VC:=jv kk (Sum.inl (qq.2:Int):Key) (V.ref nt)
       have JK:=jv kg (nk ln.nm) (V.bl true)
       refine⟨_,rfl,_,rfl,_,rfl,r,_,_,_,rfl,rfl,g_.of (Wm Ax),iA rfl TF,b,A.hG,dx,_,_,rfl,Wm z1,O.iR,O.hE,i5,g,_,rfl,mY.t (k:=nk ln.nm) (by rw[de Wi.symm];exact e5) (Wm z2) (by omega),?_⟩
       have LH:qq.2∉(qs.take i).map (·.2):=fun z=>by
         obtain⟨w1,hw1,ew⟩:=aaA.mp z
         obtain⟨j,hj⟩:=aaH.mp hw1
         have Hn:j<i:=by have:=(Rt.mp hj).1;rw[aav] at this;omega
         rw[abo,aar Hn] at hj
         obtain⟨hj1,hj2⟩:=Rt.mp hj
         have:=abt.mp rise.1 j i hj1 hi Hn
         rw[hj2,(Rt.mp hq).2] at this
         omega
       refine⟨_,_,_,_,rfl,fun b o e nk ng=>?_,by rw[de Wi];exact b_,by omega,fun s=>?_,b_,by omega,?_⟩
       · rw[de ng,de nk];exact e1 b o e nk ng
       · rw[take_snoc hq,FO LH,j8]
         by_cases es:qq.2=s
         · subst es
           rw[aar rfl,aar rfl,Ee]
           exact⟨_,rfl,nt,rfl,z2⟩
         · rw[aak es,aak (fun z=>es (by have:=Sum.inl.inj z;omega))]
           exact e4 s
       · rw[take_snoc hq,G5 _ Ee]
         exact e7.put ln.nm _
     · rintro σ H6 ⟨v6,v7,kk,kg,rfl,e1,e2,e3,e4,e5,e6,e7⟩
       rw[←Mo,aai] at e4 e7
       have up:∀{b o},H b=some o→H6 b=some o:=fun{b o} e=>e1 b o (Y6 _ _ e) (fun z=>by rw[z,Mr] at e;cases e) (fun z=>by rw[z,Y5] at e;cases e)
       have sH6:gg H H6:=fun b o e=>up e
       refine⟨_,rfl,r,rfl,⟨_,g_.of (up Ax)⟩,jP (K:=K) (a:=r) (xs:=as.map V.ref) Oy (fun i ys σ H4=>∃(v9:Option V),σ=[some (.str x),some (.str f),some (.ref r),some (.ref t),some (.ref k),some (.ref g),v6,v7,none,v9]∧H4=H6∧ys.length≤i∧Paired (lr H) ys (((row.take i).filter fun l=>l.nm∉tE row qs).map (·.nm)))
         ⟨none,rfl,rfl,UU _,.nil⟩ (fun i ys σ H4 _ ⟨_,_,e,e20,_⟩=>by rw[e];exact⟨g_.of (up Ax),e20⟩) ?_ ?_⟩
       · rintro i v ys σ H7 hx ⟨v9,rfl,rfl,e8,e9⟩
         obtain⟨b,hb,rfl⟩:=j7 hx
         obtain⟨ln,xU,dx,vn,vu,vl,k1,⟨nt,rfl,k2⟩,k3,k4⟩:=iC Ef hb
         refine⟨_,rfl,b,A.hG,dx,_,_,rfl,up k1,O.iR,O.hE,i5,_,rfl,g,_,rfl,jb.t (k:=nk ln.nm) e5 (up k2),_,rfl,?_⟩
         rw[e7 ln.nm,take_snoc xU,aay,aaq]
         by_cases Av:ln.nm∈tE row qs
         · rw[VE Av]
           refine jU ⟨_,rfl,rfl,by omega,?_⟩
           rw[X_ (by simpa using Av),aaL,List.map_nil,aaF]
           exact e9
         · rw[aaa Av]
           refine lU ⟨_,rfl,b,A.hG,dx,_,_,rfl,up k1,O.iR,O.hE,i5,_,rfl,rfl,L3,?_⟩
           rw[XU (by simpa using Av),aaL]
           exact iG e9 ⟨nt,rfl,k2⟩
       · rintro ys σ H7 ⟨v9,rfl,rfl,e8,e9⟩ c R4
         rw[Ro,hlen,aai] at e9
         have s8:=sH6.new (o:=.lst ys) R4
         have V5:c≠k:=fun z=>by rw[z,e2] at R4;cases R4
         refine⟨_,rfl,_,rfl,_,rfl,_,rfl,_,rfl,x,t,k,texts,mz row qs,rfl,g_.of (s8 _ _ ht),fun H' s'=>g_.of (s' _ _ (s8 _ _ ht)),⟨kk,by rw[de V5.symm];exact e2,fun s=>?_⟩,by omega,fun pu H9 s9 hpu0 Wn=>?_⟩
         · have:=e4 s
           cases ek:mz row qs s with
           | none=>rw[ek] at this;exact this
           | some m=>rw[ek] at this;obtain⟨v,w1,w2⟩:=this;exact⟨v,w1,w2.same s8⟩
         · refine⟨_,rfl,?_⟩
           intro o dx no OC Wh
           refine⟨o,dx,_,_,_,_,_,rfl,b_,fun Ms r6 r7=>⟨rfl,?_⟩⟩
           have HB:gg H9 Ms:=fun c u ec=>by
             rw[r6 c (gc ec no),de (gc ec no),de (gc ec OC)]
             exact ec
           have R5:=(s8.trans s9).trans HB
           refine q o Ms R5 ((s8.trans s9).free no) ?_
           unfold mj
           rw[hqs]
           exact⟨dx,_,pu,c,.jx,r7,rfl,Wn.same HB,⟨ys,HB _ _ (s9 _ _ b_),Paired.kO e9 fun _ _ z=>z.same R5⟩,rfl⟩
end
def lT:Str:=Str.ofString "abcdefghijklmnopqrstuvwxyz0123456789"
def Good(x:Str):Prop:=1≤x.length∧x.length≤12∧∀c∈x.cps.toList,c∈lT.cps.toList
def jO(x:Str):Prop:=(reprText x).length≤1048576∧x.length≤1000
abbrev sk(x:Str):Key:=Sum.inr x
theorem zp{x:Str}{l:List Str}:sk x∈l.map sk↔x∈l:=by
 constructor
 · intro h
   obtain⟨m,hm,e⟩:=aaA.mp h
   rw[←abU e];exact hm
 · exact fun h=>aac h
theorem ke{dk:List (Key×V)}{l:List Str}(h:dk.map (·.1)=l.map sk):dk.length=l.length:=by
 have:=aaW List.length h
 rwa [Ro,Ro] at this
theorem vW{dk:List (Key×V)}{l:List Str}(h:dk.map (·.1)=l.map sk){i:Nat}{k:Key}{v:V}(hi:dk[i]?=some (k,v)):∃x,l[i]?=some x∧k=sk x:=by
 have h1:(dk.map (·.1))[i]?=some k:=by rw[aah,hi];rfl
 rw[h,aah] at h1
 obtain⟨n,e,e2⟩:=aaC.mp h1
 exact⟨n,e,e2.symm⟩
theorem ki{dk:List (Key×V)}{l:List Str}(h:dk.map (·.1)=l.map sk)(x:Str):(iS dk (sk x)).isSome=decide (x∈l):=by
 by_cases m:x∈l
 · rw[VE m];exact sj.mpr (by rw[h];exact zp.mpr m)
 · rw[aaa m,abj];exact fun z=>m (zp.mp (by rw[←h];exact sj.mp z))
theorem pL{dk:List (Key×V)}{l:List Str}(h:dk.map (·.1)=l.map sk){x:Str}(hx:x∉l)(v:V):(putK dk (sk x) v).map (·.1)=(l++[x]).map sk:=by
 rw[pK,h,aak (fun z=>hx (zp.mp z)),aaq];rfl
theorem E1{dk:List (Key×V)}{l:List Str}(h:dk.map (·.1)=l.map sk):(dk.map fun kv=>kV kv.1)=gi l:=by
 have:(dk.map fun kv=>kV kv.1)=(dk.map (·.1)).map kV:=by rw[List.map_map];rfl
 rw[this,h,List.map_map];rfl
def xw(m n h:Addr):List (Str×V):=[("made",.ref m),("needs",.ref n),("held",.ref h)]
theorem NK(m n h:Addr):jD "held" (.ref h) (jD "needs" (.ref n) (jD "made" (.ref m) []))=xw m n h:=by kernel_rfl
theorem kU(m n h:Addr):(xw m n h).lookup ("held":Str)=some (V.ref h):=by kernel_rfl
theorem nY(m n h:Addr):(xw m n h).lookup ("made":Str)=some (V.ref m):=by kernel_rfl
theorem sr(m n h:Addr):(xw m n h).lookup ("needs":Str)=some (V.ref n):=by kernel_rfl
structure Dp where
 dx:Addr
 m:Addr
 n:Addr
 h:Addr
 ha:Str→Addr
 kM:List (Key×V)
 kN:List (Key×V)
 kH:List (Key×V)
structure L6(A:Ad)(H:Hp)(d:Addr)(D:Dk)(W:Addr→Prop)(π:Dp):Prop where
 hd:H d=some (.ins A.gk π.dx (xw π.m π.n π.h))
 hm:H π.m=some (.dK π.kM)
 hn:H π.n=some (.dK π.kN)
 hh:H π.h=some (.dK π.kH)
 mn:π.m≠π.n
 mh:π.m≠π.h
 nh:π.n≠π.h
 wm:W π.m
 wn:W π.n
 wh:W π.h
 km:π.kM.map (·.1)=D.names.map sk
 vm:∀p∈D.made,∃a,iS π.kM (sk p.nm)=some (.ref a)∧n5 A H a p
 kn:π.kN.map (·.1)=D.names.map sk
 vn:∀x∈D.names,∃(a:Addr)(kv:List (Key×V))(l:List Str),iS π.kN (sk x)=some (.ref a)∧¬W a∧H a=some (.dK kv)∧kv.map (·.1)=l.map sk∧l.Nodup∧∀y,y∈l↔y∈D.ir x
 kh:π.kH.map (·.1)=D.stores.map sk
 vh:∀s∈D.stores,iS π.kH (sk s)=some (.ref (π.ha s))∧W (π.ha s)∧π.ha s≠π.m∧π.ha s≠π.n∧π.ha s≠π.h∧∃kv:List (Key×V),H (π.ha s)=some (.dK kv)∧kv.map (·.1)=(D.held s).map sk
 inj:∀s∈D.stores,∀t∈D.stores,π.ha s=π.ha t→s=t
 dk:∀b,W b→∃kv,H b=some (.dK kv)
def ip(A:Ad)(H:Hp)(d:Addr)(D:Dk)(W:Addr→Prop):Prop:=∃π,L6 A H d D W π
theorem L6.same{A:Ad}{H H':Hp}{d:Addr}{D:Dk}{W:Addr→Prop}{π:Dp}(x:L6 A H d D W π)(s:gg H H'):L6 A H' d D W π where
 hd:=s _ _ x.hd
 hm:=s _ _ x.hm
 hn:=s _ _ x.hn
 hh:=s _ _ x.hh
 mn:=x.mn
 mh:=x.mh
 nh:=x.nh
 wm:=x.wm
 wn:=x.wn
 wh:=x.wh
 km:=x.km
 vm:=fun p hp=>by obtain⟨a,h1,h2⟩:=x.vm p hp;exact⟨a,h1,h2.same s⟩
 kn:=x.kn
 vn:=fun y hy=>by obtain⟨a,kv,l,h1,h2,h3,h4⟩:=x.vn y hy;exact⟨a,kv,l,h1,h2,s _ _ h3,h4⟩
 kh:=x.kh
 vh:=fun t ht=>by obtain⟨h1,h2,h3,h4,h5,kv,h6,h7⟩:=x.vh t ht;exact⟨h1,h2,h3,h4,h5,kv,s _ _ h6,h7⟩
 inj:=x.inj
 dk:=fun b hb=>by obtain⟨kv,h⟩:=x.dk b hb;exact⟨kv,s _ _ h⟩
theorem ip.same{A:Ad}{H H':Hp}{d:Addr}{D:Dk}{W:Addr→Prop}(x:ip A H d D W)(s:gg H H'):ip A H' d D W:=by
 obtain⟨π,x⟩:=x
 exact⟨π,x.same s⟩
def mU(W:Addr→Prop)(H H':Hp):Prop:=∀b o,H b=some o→¬W b→H' b=some o
theorem mU.of{W:Addr→Prop}{H H':Hp}(s:gg H H'):mU W H H':=fun b o e _=>s b o e
theorem ip.lst{A:Ad}{H:Hp}{d a:Addr}{D:Dk}{W:Addr→Prop}{xs:List V}(x:ip A H d D W)(h:H a=some (.lst xs)):¬W a:=fun z=>by
 obtain⟨π,x⟩:=x
 obtain⟨kv,e⟩:=x.dk a z
 rw[h] at e;cases e
theorem ip.tup{A:Ad}{H:Hp}{d a:Addr}{D:Dk}{W:Addr→Prop}{xs:List V}(x:ip A H d D W)(h:H a=some (.tup xs)):¬W a:=fun z=>by
 obtain⟨π,x⟩:=x
 obtain⟨kv,e⟩:=x.dk a z
 rw[h] at e;cases e
theorem ip.jx{A:Ad}{H:Hp}{d a:Addr}{D:Dk}{W:Addr→Prop}(x:ip A H d D W)(h:H a=none):¬W a:=fun z=>by
 obtain⟨π,x⟩:=x
 obtain⟨kv,e⟩:=x.dk a z
 rw[h] at e;cases e
theorem DS(m n h:Addr):(xw m n h).lookup ("check_store":Str)=none∧(xw m n h).lookup ("check_new":Str)=none∧(xw m n h).lookup ("check_held":Str)=none∧(xw m n h).lookup ("check_made":Str)=none∧(xw m n h).lookup ("keep":Str)=none:=
 ⟨by kernel_rfl,by kernel_rfl,by kernel_rfl,by kernel_rfl,by kernel_rfl⟩
theorem xQ(m n h:Addr):(xw m n h).lookup ("has":Str)=none∧(xw m n h).lookup ("patches_of":Str)=none∧(xw m n h).lookup ("sight_of":Str)=none∧(xw m n h).lookup ("row":Str)=none∧(xw m n h).lookup ("quarrels":Str)=none∧(xw m n h).lookup ("stores":Str)=none∧(xw m n h).lookup ("patches":Str)=none∧(xw m n h).lookup ("leans":Str)=none∧(xw m n h).lookup ("files":Str)=none∧(xw m n h).lookup ("stay":Str)=none:=
 ⟨by kernel_rfl,by kernel_rfl,by kernel_rfl,by kernel_rfl,by kernel_rfl,by kernel_rfl,by kernel_rfl,by kernel_rfl,by kernel_rfl,by kernel_rfl⟩
theorem Jt(m n h:Addr):(xw m n h).lookup ("begin":Str)=none∧(xw m n h).lookup ("record":Str)=none∧(xw m n h).lookup ("cut":Str)=none∧(xw m n h).lookup ("back":Str)=none∧(xw m n h).lookup ("take":Str)=none∧(xw m n h).lookup ("drop":Str)=none:=
 ⟨by kernel_rfl,by kernel_rfl,by kernel_rfl,by kernel_rfl,by kernel_rfl,by kernel_rfl⟩
section
variable{P:Program}{w:World}{K:PySem.W.Frag}{mg:Str→Option Value}{base:Heap}{A:Ad}
def SY:Dk:=⟨[],fun _=>[],[],fun _=>[]⟩
theorem U5:Inv SY:=⟨aa6,(fun p hp=>by cases hp),(fun p hp=>by cases hp),⟨fun _=>0,fun p hp=>by cases hp⟩,(fun i p hp=>by simp[SY] at hp),(fun x hx=>by cases hx),aa6,(fun s hs=>by cases hs),(fun s hs=>by cases hs)⟩
def NL(A:Ad):Sp:=fun vs H Q _=>∃(p dx:Addr),vs=[.ref p]∧H p=some (.ins A.gk dx [])∧∀(H':Hp)(W:Addr→Prop),ip A H' p SY W→(∀b,W b→H b=none)→(∀b o,H b=some o→b≠p→H' b=some o)→Q .jx H'
theorem B5(T:Txt mg)(O:Ok K mg A):iw P w K mg base m_ 1 A.mH A.qE ["self"] (NL A):=by
 refine O.sV.f.ok vM (fun vs H Q E h=>?_) (fun jL A0 outer s H vs Q E hr h=>?_)
 · obtain⟨p,dx,rfl,_⟩:=h
   rfl
 · obtain⟨p,dx,rfl,hp,k⟩:=h
   refine⟨_,(c_ (lx (pv 0) nF rfl)
     (c_ (lx (pv 0) nF rfl)
     (e_ (lx (pv 0) nF rfl)))),?_⟩
   refine Fz ?_;intro _ _
   intro m hm
   have Fe:p≠m:=gc hp hm
   refine⟨_,rfl,p,A.gk,dx,_,rfl,(by rw[de Fe];exact hp),O.gq,O.iT,(by show 0<1000;decide),?_⟩
   intro n hn
   have R6:p≠n:=gc b_ hn
   have TL:m≠n:=by
     intro z;subst z;rw[de Fe.symm,b_] at hn;cases hn
   have hH:H n=none:=by rw[de R6.symm,de TL.symm] at hn;exact hn
   refine⟨_,rfl,p,A.gk,dx,_,rfl,(by rw[de R6];exact b_),O.gq,O.jf,(by show 1<1000;decide),?_⟩
   intro h hh
   have TM:p≠h:=gc b_ hh
   have Wo:n≠h:=by
     intro z;subst z;rw[de R6.symm,b_] at hh;cases hh
   have Wq:m≠h:=by
     intro z;subst z;rw[de Fe.symm,de TL,de Fe.symm,b_] at hh;cases hh
   have Y8:H h=none:=by rw[de TM.symm,de Wo.symm,de TM.symm,de Wq.symm] at hh;exact hh
   refine⟨_,rfl,p,A.gk,dx,_,rfl,(by rw[de TM];exact b_),O.gq,O.iB,(by show 2<1000;decide),?_⟩
   have e1:∀{o},upd (upd (upd (upd (upd (upd H m (.dK [])) p (.ins A.gk dx (jD "made" (.ref m) []))) n (.dK [])) p (.ins A.gk dx (jD "needs" (.ref n) (jD "made" (.ref m) [])))) h (.dK [])) p o m=some (.dK []):=by
     intro o;rw[de Fe.symm,de Wq,de Fe.symm,de TL,de Fe.symm,b_]
   have e2:∀{o},upd (upd (upd (upd (upd (upd H m (.dK [])) p (.ins A.gk dx (jD "made" (.ref m) []))) n (.dK [])) p (.ins A.gk dx (jD "needs" (.ref n) (jD "made" (.ref m) [])))) h (.dK [])) p o n=some (.dK []):=by
     intro o;rw[de R6.symm,de Wo,de R6.symm,b_]
   have e3:∀{o},upd (upd (upd (upd (upd (upd H m (.dK [])) p (.ins A.gk dx (jD "made" (.ref m) []))) n (.dK [])) p (.ins A.gk dx (jD "needs" (.ref n) (jD "made" (.ref m) [])))) h (.dK [])) p o h=some (.dK []):=by
     intro o;rw[de TM.symm,b_]
   refine k _ (fun b=>b=m∨b=n∨b=h) ⟨⟨dx,m,n,h,fun _=>0,[],[],[]⟩,Eq.trans b_ (aaW (fun l=>some (HO.ins A.gk dx l)) (NK m n h)),e1,e2,e3,TL,Wq,Wo,.inl rfl,.inr (.inl rfl),.inr (.inr rfl),rfl,(fun p hp=>by cases hp),rfl,(fun p hp=>by cases hp),rfl,(fun p hp=>by cases hp),(fun p hp=>by cases hp),fun b hb=>?_⟩ (fun b hb=>?_) fun b o e hb=>?_
   · rcases hb with rfl|rfl|rfl
     · exact⟨_,e1⟩
     · exact⟨_,e2⟩
     · exact⟨_,e3⟩
   · rcases hb with rfl|rfl|rfl
     · exact hm
     · exact hH
     · exact Y8
   · rw[de hb,de (gc e Y8),de hb,de (gc e hH),de hb,de (gc e hm)]
     exact e
def Lc(XB:Addr):Sp:=fun vs H Q E=>∃x:Str,vs=[.str x]∧jO x∧(Good x→Q .jx H)∧(¬Good x→E (.ref XB) none H)
theorem L7:(12:Int).natAbs.log2<1920:=by decide
theorem sW(T:Txt mg)(O:Ok K mg A):iw P w K mg base (tw P w) 1 A.uH A.uI ["name"] (Lc A.jj):=by
 refine O.tM.f.CF sN (fun vs H Q E h=>?_) (fun jL A0 outer s H vs Q E hr h=>?_)
 · obtain⟨x,rfl,_⟩:=h
   rfl
 · obtain⟨x,rfl,⟨hf,hl⟩,q,qe⟩:=h
   refine⟨_,(c_ (iF (nB (CO HL HL f_ (gA uf (by rfl) T.jw aan (a_ (pv 0) d_)) (Bi (v:=.int 12) (by rfl) O.rF ⟨_,rfl⟩))) (e_ (j9 bx O.A4 (by rfl) (lC (iz ja (iz (IA (Bi (v:=.int 12) (by rfl) O.rF ⟨_,rfl⟩)) (iz ja (iz (my (pv 0)) nH))))))) ib)
     (e_ (iL Io rfl (Nf (pv 0)) (gr (i:=1) sN.nd rfl (Or.inl rfl)) (e_ (iF (ij Bl (pv 1) (Bi (v:=.str (Str.ofString "abcdefghijklmnopqrstuvwxyz0123456789")) (by rfl) O.BV ⟨_,rfl⟩) rfl) (e_ (j9 bx O.A4 (by rfl) (lC (iz ja (iz (my (pv 0)) nH))))) ib))))),?_⟩
   refine Hw ?_;intro _
   have hz:x.length≤sizeLine:=aab hl (by decide)
   have bad:¬Good x→∀H',H'=H→E (.ref A.jj) none H':=fun g H' e=>by subst e;exact qe g
   refine⟨_,rfl,_,rfl,hz,_,_,rfl,rfl,_,rfl,?_⟩
   refine ku (fun h1=>?_) (fun h1=>?_)
   · refine⟨_,_,rfl,rfl,_,rfl,?_⟩
     refine ku (fun h2=>?_) (fun h2=>?_)
     ·
       have h2:¬((x.length:Int)≤12):=by simpa using h2
       refine⟨_,rfl,by decide+kernel,⟨_,rfl,L7,_,rfl,by decide+kernel,⟨_,rfl,by decide+kernel,⟨_,rfl,_,rfl,hf,_,rfl,hf,fun _=>qe fun g=>?_⟩⟩⟩⟩
       have:=g.2.1;omega
     · have h1:(1:Int)≤(x.length:Int):=by simpa using h1
       have h2:(x.length:Int)≤12:=by simpa using h2
       refine⟨_,rfl,x,rfl,Iz (fun i σ H2=>∃v,σ=[some (.str x),v]∧H2=H∧∀j<i,∀c,x.cps[j]?=some c→c∈lT.cps.toList) ⟨none,rfl,rfl,fun j hj=>absurd hj (by omega)⟩ ?_ ?_⟩
       · rintro i c σ H2 hc ⟨v,rfl,rfl,hp⟩
         refine⟨_,rfl,_,_,rfl,rfl,_,rfl,?_⟩
         rw[KL]
         refine ku (fun h3=>?_) (fun h3=>?_)
         · have h3:c∉lT.cps.toList:=by simpa[lT] using h3
           refine⟨_,rfl,by decide+kernel,⟨_,rfl,_,rfl,hf,_,rfl,hf,fun _=>qe fun g=>?_⟩⟩
           exact h3 (g.2.2 c (UT (i:=i) (by rw[aaZ];exact hc)))
         · have h3:c∈lT.cps.toList:=by simpa[lT] using h3
           refine⟨_,rfl,rfl,fun j hj c' Be=>?_⟩
           by_cases e:j=i
           · subst e;rw[hc] at Be;cases Be;exact h3
           · exact hp j (by omega) c' Be
       · rintro σ H2 ⟨v,rfl,rfl,hp⟩
         refine q ⟨by omega,by omega,fun c hc=>?_⟩
         obtain⟨j,hj,e⟩:=List.mem_iff_getElem.mp hc
         have Y9:j<x.cps.size:=by simpa using hj
         exact hp j Y9 c (by rw[aaQ Y9];simpa using e)
   · have h1:¬((1:Int)≤(x.length:Int)):=by simpa using h1
     refine⟨_,rfl,?_⟩
     refine⟨_,rfl,by decide+kernel,⟨_,rfl,L7,_,rfl,by decide+kernel,⟨_,rfl,by decide+kernel,⟨_,rfl,_,rfl,hf,_,rfl,hf,fun _=>qe fun g=>?_⟩⟩⟩⟩
     have:=g.1;omega
def G6(A:Ad):Sp:=fun vs H Q _=>∃(d:Addr)(D:Dk)(W:Addr→Prop),vs=[.ref d]∧ip A H d D W∧∀p,H p=none→Q (.ref p) (upd H p (.lst (gi D.names)))
theorem E2(T:Txt mg)(O:Ok K mg A):iw P w K mg base m_ 1 A.rh A.rj ["self"] (G6 A):=by
 refine O.qj.f.ok xJ (fun vs H Q E h=>?_) (fun jL A0 outer s H vs Q E hr h=>?_)
 · obtain⟨d,D,W,rfl,_⟩:=h
   rfl
 · obtain⟨d,D,W,rfl,⟨π,x⟩,q⟩:=h
   refine⟨_,(e_ (h_ (rY (yJ rfl) (by rfl) T.vR abm (a_ (gz (pv 0) rfl) d_)))),?_⟩
   refine⟨_,rfl,d,A.gk,π.dx,_,_,rfl,x.hd,O.gq,O.iT,nY _ _ _,π.m,_,rfl,x.hm,fun p rV=>?_⟩
   rw[E1 x.km]
   exact q p rV
def Ld(A:Ad):Sp:=fun vs H Q E=>∃(d:Addr)(D:Dk)(W:Addr→Prop)(s:Str),vs=[.ref d,.str s]∧ip A H d D W∧jO s∧(s∈D.stores→Q .jx H)∧(s∉D.stores→E (.ref A.iM) none H)
theorem jW(T:Txt mg)(O:Ok K mg A):iw P w K mg base (tw P w) 1 A.nV A.nX ["self","store"] (Ld A):=by
 refine O.iX.f.CF sE (fun vs H Q E h=>?_) (fun jL A0 outer s H vs Q E hr h=>?_)
 · obtain⟨d,D,W,s,rfl,_⟩:=h
   rfl
 · obtain⟨d,D,W,st,rfl,⟨π,x⟩,hf,q,qe⟩:=h
   refine⟨_,(e_ (iF (jn (lg (by exact il hr) (pv 1) (gz (pv 0) rfl))) (e_ (j9 bx O.GY (by rfl) (lC (iz ja (iz (my (pv 1)) nH))))) ib)),?_⟩
   refine⟨_,rfl,_,rfl,d,A.gk,π.dx,_,_,rfl,x.hd,O.gq,O.iB,kU _ _ _,π.h,_,rfl,jb.k (k:=sk st) x.hh,_,rfl,?_⟩
   rw[ki x.kh]
   by_cases hs:st∈D.stores
   · rw[VE hs]
     exact q hs
   · rw[aaa hs]
     exact lU ⟨_,rfl,by decide+kernel,⟨_,rfl,_,rfl,hf.1,_,rfl,hf.1,fun _=>qe hs⟩⟩
def NM(A:Ad):Sp:=fun vs H Q E=>∃(d:Addr)(D:Dk)(W:Addr→Prop)(s:Str),vs=[.ref d,.str s]∧ip A H d D W∧jO s∧(s∈D.names→Q .jx H)∧(s∉D.names→E (.ref A.jy) none H)
theorem Ap(T:Txt mg)(O:Ok K mg A):iw P w K mg base (tw P w) 1 A.oF A.oG ["self","patch"] (NM A):=by
 refine O.qK.f.CF tG (fun vs H Q E h=>?_) (fun jL A0 outer s H vs Q E hr h=>?_)
 · obtain⟨d,D,W,s,rfl,_⟩:=h
   rfl
 · obtain⟨d,D,W,st,rfl,⟨π,x⟩,hf,q,qe⟩:=h
   refine⟨_,(e_ (iF (jn (lg (by exact il hr) (pv 1) (gz (pv 0) rfl))) (e_ (j9 bx O.A5 (by rfl) (lC (iz ja (iz (my (pv 1)) nH))))) ib)),?_⟩
   refine⟨_,rfl,_,rfl,d,A.gk,π.dx,_,_,rfl,x.hd,O.gq,O.iT,nY _ _ _,π.m,_,rfl,jb.k (k:=sk st) x.hm,_,rfl,?_⟩
   rw[ki x.km]
   by_cases hs:st∈D.names
   · rw[VE hs]
     exact q hs
   · rw[aaa hs]
     exact lU ⟨_,rfl,by decide+kernel,⟨_,rfl,_,rfl,hf.1,_,rfl,hf.1,fun _=>qe hs⟩⟩
def NN(A:Ad):Sp:=fun vs H Q E=>∃(d:Addr)(D:Dk)(W:Addr→Prop)(s x:Str),vs=[.ref d,.str s,.str x]∧ip A H d D W∧jO s∧jO x∧s∈D.stores∧(x∈D.held s→Q .jx H)∧(x∉D.held s→E (.ref A.jy) none H)
theorem oW(T:Txt mg)(O:Ok K mg A):iw P w K mg base (tw P w) 1 A.oH A.oI ["self","store","patch"] (NN A):=by
 refine O.kY.f.CF tH (fun vs H Q E h=>?_) (fun jL A0 outer s H vs Q E hr h=>?_)
 · obtain⟨d,D,W,s,y,rfl,_⟩:=h
   rfl
 · obtain⟨d,D,W,st,y,rfl,⟨π,x⟩,hf,Ff,hs,q,qe⟩:=h
   obtain⟨v1,_,_,_,_,kv,v2,v3⟩:=x.vh st hs
   refine⟨_,(e_ (iF (jn (lg (by exact il hr) (pv 2) (i3 (by exact il hr) (gz (pv 0) rfl) (pv 1) (fun _ _=>rfl)))) (e_ (j9 bx O.A5 (by rfl) (lC (iz ja (iz (my (pv 1)) (iz ja (iz (my (pv 2)) nH))))))) ib)),?_⟩
   refine⟨_,rfl,_,rfl,d,A.gk,π.dx,_,_,rfl,x.hd,O.gq,O.iB,kU _ _ _,_,rfl,π.h,.ref (π.ha st),rfl,?_,π.ha st,_,rfl,jb.k (k:=sk y) v2,_,rfl,?_⟩
   · have:=jb.k (k:=sk st) x.hh
     rw[v1] at this
     exact this
   · rw[ki v3]
     by_cases hy:y∈D.held st
     · rw[VE hy]
       exact q hy
     · rw[aaa hy]
       refine lU ?_
       exact⟨_,rfl,by decide+kernel,⟨_,rfl,_,rfl,hf.1,_,rfl,hf.1,⟨_,rfl,by decide+kernel,⟨_,rfl,_,rfl,Ff.1,_,rfl,Ff.1,fun _=>qe hy⟩⟩⟩⟩
end
def Ju(H:Hp)(v:V)(l:Ln):Prop:=∃t,v=.ref t∧H t=some (.tup [.str l.nm.1,.int l.nm.2,.str l.tx])
def Jv(H:Hp)(a:Addr)(row:List Ln):Prop:=∃vs,H a=some (.lst vs)∧Paired (Ju H) vs row
theorem Ju.same{H H':Hp}{v:V}{l:Ln}(x:Ju H v l)(s:gg H H'):Ju H' v l:=by obtain⟨t,e,h⟩:=x;exact⟨t,e,s _ _ h⟩
section
variable{P:Program}{w:World}{K:PySem.W.Frag}{mg:Str→Option Value}{base:Heap}{A:Ad}
def QH(A:Ad):Sp:=fun vs H Q E=>∃(d:Addr)(D:Dk)(W:Addr→Prop)(s:Str),vs=[.ref d,.str s]∧ip A H d D W∧jO s∧tX D.made.length∧(s∉D.stores→E (.ref A.iM) none H)∧(s∈D.stores→∀p,H p=none→Q (.ref p) (upd H p (.lst (gi (D.has s)))))
theorem E3(T:Txt mg)(O:Ok K mg A):iw P w K mg base (tw P w) 2 A.y9 A.y_ ["self","store"] (QH A):=by
 have ig:=jW (P:=P) (w:=w) (base:=base) T O
 refine O.kC.f.CF wH (fun vs H Q E h=>?_) (fun jL A0 outer s H vs Q E hr h=>?_)
 · obtain⟨d,D,W,s,rfl,_⟩:=h
   rfl
 · obtain⟨d,D,W,st,rfl,X,hf,jK,qe,q⟩:=h
   obtain⟨π,x⟩:=id X
   have xV:D.made.length≤4000:=jK
   have sz:sizeLine=16777216:=aat
   refine⟨_,(c_ (hZ (Aa bx (pv 0) O.gq O.iX ig hr (a_ (pv 1) d_)))
     (e_ (h_ (FA (yC yZ (fO qa).names [2] rfl (By (gz (pv 0) rfl)) rfl (by decide+kernel) (fun _ _ _ _=>(gr (i:=2) wH.nd rfl (Or.inl rfl))) (fun _ _ _ _=>⟨_,nG (jn (oP (by exact il hr) (pv 2) (i3 (by exact il hr) (gz (pv 0) rfl) (pv 1) (fun _ _=>rfl)))),by(try simp only [iu]);rfl⟩) (fun _ _ _ _=>⟨_,(pv 2),by(try simp only [iu]);rfl⟩)))))),?_⟩
   refine Hw ?_;intro _
   refine⟨_,rfl,d,π.dx,_,rfl,x.hd,(DS _ _ _).1,_,rfl,d,D,W,st,rfl,X,hf,fun hs=>?_,fun hs=>qe hs⟩
   obtain⟨v1,_,sX,_,_,kv,v2,v3⟩:=x.vh st hs
   refine⟨_,rfl,d,A.gk,π.dx,_,_,rfl,x.hd,O.gq,O.iT,nY _ _ _,π.m,π.kM,rfl,x.hm,fun o uz=>?_⟩
   have Hz:=ke x.km
   have JU:D.names.length=D.made.length:=by unfold Dk.names;rw[Ro]
   have Pn:d≠π.m:=i_ x.hd x.hm (fun z=>by cases z)
   have f:∀{b u},H b=some u→b≠π.m→upd H π.m (.mK o (.dK π.kM)) b=some u:=fun{b u} e n=>by rw[de n];exact e
   refine FD (by omega) (fun i ys σ H3=>∃(v2:Option V)(zs:List Str),σ=[some (.ref d),some (.str st),v2]∧H3=upd H π.m (.mK o (.dK π.kM))∧ys=gi zs∧zs=(D.names.take i).filter fun x=>x∈D.held st) ⟨none,[],rfl,rfl,rfl,rfl⟩ (fun i ys σ H3 ⟨_,zs,_,e,e2,e3⟩=>?_) ?_ ?_
   · rw[e,e2,e3]
     refine⟨b_,?_⟩
     rw[Ro]
     exact aab (aaB _ _) (by rw[aav];omega)
   · rintro i k v ys σ H3 hi ⟨v0,zs,rfl,rfl,rfl,e3⟩
     obtain⟨y,hy,rfl⟩:=vW x.km hi
     refine⟨_,rfl,_,rfl,d,A.gk,π.dx,_,_,rfl,f x.hd Pn,O.gq,O.iB,kU _ _ _,_,rfl,π.h,.ref (π.ha st),rfl,?_,π.ha st,_,rfl,jb.k (k:=sk y) (f v2 sX),_,rfl,?_⟩
     · have:=jb.k (k:=sk st) (f x.hh x.mh.symm)
       rw[v1] at this
       exact this
     · rw[ki v3,take_snoc hy,aay]
       by_cases hm:y∈D.held st
       · rw[VE hm]
         refine lU ⟨_,rfl,_,_,rfl,rfl,iW _ _,?_⟩
         rw[e3,XU (by simpa using hm),aaL]
       · rw[aaa hm]
         refine jU ⟨_,_,rfl,rfl,rfl,?_⟩
         rw[e3,X_ (by simpa using hm),aaL,aaF]
   · rintro ys σ H3 ⟨v0,zs,rfl,rfl,rfl,e3⟩ p rV
     rw[Hz,aai] at e3
     have Fe:p≠π.m:=fun z=>by rw[z,b_] at rV;cases rV
     have Fc:H p=none:=by rw[de Fe] at rV;exact rV
     refine⟨π.m,o,_,by rw[de Fe.symm];exact b_,uz,?_⟩
     rw[Bw x.hm Fe]
     have:=q hs p Fc
     unfold Dk.has at this
     rw[←e3] at this
     exact this
def QI(A:Ad):Sp:=fun vs H Q E=>∃(d:Addr)(D:Dk)(W:Addr→Prop)(s:Str),vs=[.ref d,.str s]∧ip A H d D W∧jO s∧tX D.made.length∧(s∉D.stores→E (.ref A.iM) none H)∧(s∈D.stores→∀p H',gg H H'→H p=none→xO A H' p (D.pO s)→Q (.ref p) H')
theorem Aq(T:Txt mg)(O:Ok K mg A):iw P w K mg base (tw P w) 3 A.oC A.oE ["self","store"] (QI A):=by
 have jk:=E3 (P:=P) (w:=w) (base:=base) T O
 refine O.qJ.f.CF nU (fun vs H Q E h=>?_) (fun jL A0 outer s H vs Q E hr h=>?_)
 · obtain⟨d,D,W,s,rfl,_⟩:=h
   rfl
 · obtain⟨d,D,W,st,rfl,X,hf,jK,qe,q⟩:=h
   obtain⟨π,x⟩:=id X
   have xV:D.made.length≤4000:=jK
   have sz:sizeLine=16777216:=aat
   have pM:(D.pO st).length≤D.made.length:=aaB _ _
   refine⟨_,(e_ (h_ (uh oz (fO kj).names [2] rfl (iq (Aa bx (pv 0) O.gq O.kC jk hr (a_ (pv 1) d_))) rfl (by decide+kernel) (fun _ _ _ _=>(gr (i:=2) nU.nd rfl (Or.inl rfl))) (fun _ _ _ _=>mx) (fun _ _ _ _=>⟨_,i3 (by exact il hr) (gz (pv 0) rfl) (pv 2) (fun _ _=>rfl),by(try simp only [iu]);rfl⟩)))),?_⟩
   refine⟨_,rfl,d,π.dx,_,rfl,x.hd,(xQ _ _ _).1,_,rfl,d,D,W,st,rfl,X,hf,jK,fun hs=>qe hs,fun hs p rV=>?_⟩
   rw[Dk.FG]
   have s1:gg H (upd H p (.lst (gi ((D.pO st).map (·.nm))))):=(gg.refl H).new rV
   have Mh:(upd H p (.lst (gi ((D.pO st).map (·.nm))))) p=some (.lst (gi ((D.pO st).map (·.nm)))):=b_
   generalize upd H p (.lst (gi ((D.pO st).map (·.nm))))=H1 at s1 Mh
   refine⟨p,rfl,⟨_,g_.of Mh⟩,jP (K:=K) (a:=p) (xs:=gi ((D.pO st).map (·.nm))) (by rw[Ro,Ro];omega) (fun i ys σ H3=>∃(v2:Option V)(as:List Addr),σ=[some (.ref d),some (.str st),v2]∧H3=H1∧ys=as.map V.ref∧Paired (n5 A H) as ((D.pO st).take i))
     ⟨none,[],rfl,rfl,rfl,.nil⟩ (fun i ys σ H3 _ ⟨_,as,_,e,e2,e3⟩=>?_) ?_ ?_⟩
   · rw[e,e2]
     have:=Paired.length e3
     rw[aav] at this
     exact⟨g_.of Mh,by rw[Ro];omega⟩
   · rintro i v ys σ H3 hx ⟨v2,as,rfl,rfl,rfl,e3⟩
     obtain⟨y,hy,rfl⟩:=jQ hx
     rw[aah] at hy
     obtain⟨pt,Kg,rfl⟩:=aaC.mp hy
     have Av:pt∈D.made:=(Inv.l7.mp (UT Kg)).1
     obtain⟨a,z1,z2⟩:=x.vm pt Av
     refine⟨_,rfl,d,A.gk,π.dx,_,_,rfl,s1 _ _ x.hd,O.gq,O.iT,nY _ _ _,_,rfl,π.m,.ref a,rfl,?_,?_⟩
     · have:=jb.k (k:=sk pt.nm) (s1 _ _ x.hm)
       rw[z1] at this
       exact this
     · refine⟨_,as++[a],rfl,rfl,by rw[aaq];rfl,?_⟩
       rw[take_snoc Kg]
       exact iG e3 z2
   · rintro ys σ H3 ⟨v2,as,rfl,rfl,rfl,e3⟩ r sv
     have e0:(gi ((D.pO st).map (·.nm))).length=(D.pO st).length:=by rw[Ro,Ro]
     rw[e0,aai] at e3
     have s2:=s1.new (o:=.lst (as.map V.ref)) sv
     exact q hs r _ s2 (s1.free sv) ⟨as,b_,Paired.kO e3 fun _ _ z=>z.same s2⟩
def Le(A:Ad):Sp:=fun vs H Q E=>∃(d:Addr)(D:Dk)(W:Addr→Prop)(s f:Str),vs=[.ref d,.str s,.str f]∧ip A H d D W∧jO s∧Small D.made∧Inv D∧(s∉D.stores→E (.ref A.iM) none H)∧(s∈D.stores→∀p H',gg H H'→H p=none→EY A H' p (hU (D.pO s) f) (D.row s f)→Q (.ref p) H')
theorem oK(T:Txt mg)(O:Ok K mg A):iw P w K mg base (tw P w) 5 A.qH A.qI ["self","store","file"] (Le A):=by
 have wj:=An (P:=P) (w:=w) (base:=base) T O
 have u5:=Aq (P:=P) (w:=w) (base:=base) T O
 refine O.kT.f.CF vO (fun vs H Q E h=>?_) (fun jL A0 outer s H vs Q E hr h=>?_)
 · obtain⟨d,D,W,s,f,rfl,_⟩:=h
   rfl
 · obtain⟨d,D,W,st,f,rfl,X,hf,sm,I,qe,q⟩:=h
   obtain⟨π,x⟩:=id X
   refine⟨_,(e_ (h_ (ue O.K1 wj (hr.mono (by decide)) (by rfl) O.K2 O.rC.b .nil oa (a_ (Aa bx (pv 0) O.gq O.qJ u5 hr (a_ (pv 1) d_)) (a_ (pv 2) d_))))),?_⟩
   refine⟨_,rfl,d,π.dx,_,rfl,x.hd,(xQ _ _ _).2.1,_,rfl,d,D,W,st,rfl,X,hf,sm.many,fun hs=>qe hs,fun hs a H1 s1 ha0 TN=>?_⟩
   refine⟨_,rfl,?_⟩
   intro p px np Wr nxp
   have s2:gg H1 (upd (upd H1 px (.own p)) p (.ins A.ic px [])):=fun b o e=>by
     rw[de (gc e np),de (gc e Wr)]
     exact e
   refine⟨p,px,a,D.pO st,f,rfl,b_,TN.same s2,sm.sub (Inv.yb st),I.nodup st f,I.closed hs f,I.Qn st f,fun H' k sg=>⟨rfl,?_⟩⟩
   exact q hs p H' (fun b o e=>k b o (s2 b o (s1 b o e)) (gc (s1 b o e) np)) (s1.free np) sg
theorem Jw{D:Dk}(I:Inv D)(s f:Str):∀l∈D.row s f,l.nm∈(hU (D.pO s) f).map (·.nm):=fun l hl=>aac ((lF _ f).subset ((I.yU s f).subset hl))
def NO(A:Ad):Sp:=fun vs H Q E=>∃(d:Addr)(D:Dk)(W:Addr→Prop)(s f:Str),vs=[.ref d,.str s,.str f]∧ip A H d D W∧jO s∧Small D.made∧Inv D∧(s∉D.stores→E (.ref A.iM) none H)∧(s∈D.stores→∀p H',gg H H'→H p=none→Jv H' p (D.row s f)→Q (.ref p) H')
theorem E4(T:Txt mg)(O:Ok K mg A):iw P w K mg base (tw P w) 6 A.zc A.zd ["self","store","file"] (NO A):=by
 have jl:=oK (P:=P) (w:=w) (base:=base) T O
 refine O.uR.f.CF wJ (fun vs H Q E h=>?_) (fun jL A0 outer s H vs Q E hr h=>?_)
 · obtain⟨d,D,W,s,f,rfl,_⟩:=h
   rfl
 · obtain⟨d,D,W,st,f,rfl,X,hf,sm,I,qe,q⟩:=h
   obtain⟨π,x⟩:=id X
   have sz:sizeLine=16777216:=aat
   have Ee:(D.row st f).length≤4000:=aab (I.uq st f) sm.iH
   refine⟨_,(e_ (h_ (uh y6 (fO qc).names [3] rfl (iq (gz (Aa bx (pv 0) O.gq O.kT jl hr (a_ (pv 1) (a_ (pv 2) d_))) rfl)) rfl (by decide+kernel) (fun _ _ _ _=>(gr (i:=3) wJ.nd rfl (Or.inl rfl))) (fun _ _ _ _=>mx) (fun _ _ _ _=>⟨_,Bm (a_ (iy yv (gz (pv 3) rfl) f_ (fun _ _=>rfl)) (a_ (iy yv (gz (pv 3) rfl) f_ (fun _ _=>rfl)) (a_ (gz (pv 3) rfl) d_))),by(try simp only [iu]);rfl⟩)))),?_⟩
   refine⟨_,rfl,d,π.dx,_,rfl,x.hd,(xQ _ _ _).2.2.1,_,rfl,_,rfl,d,D,W,st,f,rfl,X,hf,sm,I,fun hs=>qe hs,fun hs p H1 s1 rV ⟨px,ah,l,g1,g2,⟨as,g3,g4⟩⟩=>?_⟩
   have hlen:=Paired.length g4
   refine⟨p,A.ic,px,_,_,rfl,g1,O.j5,O.ix,ll ah l,l,rfl,⟨_,g_.of g3⟩,jP (K:=K) (a:=l) (xs:=as.map V.ref) (by rw[Ro];omega) (fun i ys σ H4=>∃(v3:Option V),σ=[some (.ref d),some (.str st),some (.str f),v3]∧gg H1 H4∧Paired (Ju H4) ys ((D.row st f).take i))
     ⟨none,rfl,gg.refl _,.nil⟩ (fun i ys σ H4 _ ⟨_,_,e,e2⟩=>⟨g_.of (e _ _ g3),by rw[Paired.length e2,aav];omega⟩) ?_ ?_⟩
   · rintro i v ys σ H4 hx ⟨v3,rfl,s4,e2⟩
     obtain⟨b,hb,rfl⟩:=j7 hx
     obtain⟨ln,xU,Pl,vn,vu,vl,k1,⟨nt,rfl,k2⟩,k3,k4⟩:=iC g4 hb
     refine⟨_,rfl,b,A.hG,Pl,_,_,rfl,s4 _ _ k1,O.iR,O.hE,i5,nt,_,_,_,rfl,rfl,u_.of (s4 _ _ k2),iA (j:=0) rfl rfl,?_⟩
     refine⟨_,rfl,b,A.hG,Pl,_,_,rfl,s4 _ _ k1,O.iR,O.hE,i5,nt,_,_,_,rfl,rfl,u_.of (s4 _ _ k2),iA (j:=1) rfl rfl,?_⟩
     refine⟨_,rfl,b,A.hG,Pl,_,_,rfl,s4 _ _ k1,O.iR,O.jI,zg,L2.jK,fun t ht=>?_⟩
     have s5:=(gg.refl H4).new (o:=.tup [.str ln.nm.1,.int ln.nm.2,.str ln.tx]) ht
     refine⟨_,rfl,s4.trans s5,?_⟩
     rw[take_snoc xU]
     exact iG (Paired.kO e2 fun _ _ z=>z.same s5) ⟨t,rfl,b_⟩
   · rintro ys σ H4 ⟨v3,rfl,s4,e2⟩ r sv
     rw[Ro,hlen,aai] at e2
     have s5:=(s1.trans s4).new (o:=.lst ys) sv
     exact q hs r _ s5 ((s1.trans s4).free sv) ⟨ys,b_,Paired.kO e2 fun _ _ z=>z.same ((gg.refl H4).new sv)⟩
def QJ(A:Ad):Sp:=fun vs H Q E=>∃(d:Addr)(D:Dk)(W:Addr→Prop)(s f:Str),vs=[.ref d,.str s,.str f]∧ip A H d D W∧jO s∧Small D.made∧Inv D∧(s∉D.stores→E (.ref A.iM) none H)∧(s∈D.stores→∀p H' vs,gg H H'→H p=none→H' p=some (.lst vs)→iY H' (D.xG s f) vs→Q (.ref p) H')
theorem rP(T:Txt mg)(O:Ok K mg A):iw P w K mg base (tw P w) 6 A.qF A.qG ["self","store","file"] (QJ A):=by
 have jl:=oK (P:=P) (w:=w) (base:=base) T O
 have kR:=rN (P:=P) (w:=w) (base:=base) T O
 refine O.l9.f.CF vN (fun vs H Q E h=>?_) (fun jL A0 outer s H vs Q E hr h=>?_)
 · obtain⟨d,D,W,s,f,rfl,_⟩:=h
   rfl
 · obtain⟨d,D,W,st,f,rfl,X,hf,sm,I,qe,q⟩:=h
   obtain⟨π,x⟩:=id X
   have Ee:(D.row st f).length≤4000:=aab (I.uq st f) sm.iH
   refine⟨_,(e_ (h_ (yq (Aa bx (pv 0) O.gq O.kT jl hr (a_ (pv 1) (a_ (pv 2) d_))) O.j5 O.jH.t kR (hr.mono (by decide)) O.jH.b .nil oa))),?_⟩
   refine⟨_,rfl,d,π.dx,_,rfl,x.hd,(xQ _ _ _).2.2.1,_,rfl,_,rfl,d,D,W,st,f,rfl,X,hf,sm,I,fun hs=>qe hs,fun hs p H1 s1 rV sg=>?_⟩
   obtain⟨px,ah,l,g1,g2,g3⟩:=id sg
   refine⟨p,px,_,rfl,g1,Jq ah l,p,_,_,rfl,sg,Jw I st f,Ee,fun r H2 vs s2 sv Ax Ef=>?_⟩
   exact q hs r H2 vs (s1.trans s2) (s1.free sv) Ax Ef
end
theorem rQ{xs ys:List Str}(nd:xs.Nodup)(h:∀x∈xs,x∈ys):xs.length≤ys.length:=by
 have:=len_sub (xs:=xs.map fun k=>((k,0):Nm)) (ys:=ys.map fun k=>(k,0)) (List.pairwise_map.mpr (nd.imp fun h z=>h (aaW Prod.fst z))) fun x hx=>by
   obtain⟨k,hk,rfl⟩:=aaA.mp hx
   exact aac (h k hk)
 rwa [Ro,Ro] at this
section
variable{A:Ad}{H:Hp}{x:Addr}{o:HO}{kv:List (Key×V)}
theorem mI.dk{a:Addr}{l:Ln}(h:mI A H a l)(hx:H x=some (.dK kv)):mI A (L2.upd H x o) a l:=mI.upd h hx (fun _ z=>by cases z) (fun _ _ _ z=>by cases z)
theorem ql.dk{a:Addr}{ls:List Ln}(h:ql A H a ls)(hx:H x=some (.dK kv)):ql A (L2.upd H x o) a ls:=by
 obtain⟨as,h1,h2⟩:=h
 exact⟨as,by rw[de (i_ h1 hx (fun z=>by cases z))];exact h1,Paired.kO h2 fun _ _ z=>z.dk hx⟩
theorem zh.dk{a:Addr}{ns:List Nm}(h:zh H a ns)(hx:H x=some (.dK kv)):zh (L2.upd H x o) a ns:=by
 obtain⟨vs,h1,h2⟩:=h
 exact⟨vs,by rw[de (i_ h1 hx (fun z=>by cases z))];exact h1,Paired.kO h2 fun _ _ z=>z.upd hx (fun _ z=>by cases z)⟩
theorem n5.dk{a:Addr}{p:Pt}(h:n5 A H a p)(hx:H x=some (.dK kv)):n5 A (L2.upd H x o) a p:=by
 obtain⟨dx,vf,pu,cu,vo,h0,h1,h2,h3,h4⟩:=h
 exact⟨dx,vf,pu,cu,vo,by rw[de (i_ h0 hx (fun z=>by cases z))];exact h0,h1,h2.dk hx,h3.dk hx,h4⟩
end
def DT(l:List Str)(m:Str):List Str:=if m∈l then l else l++[m]
theorem DU{l:List Str}{m x:Str}:x∈DT l m↔x∈l∨x=m:=by
 unfold DT
 split
 · rename_i h
   exact⟨.inl,fun z=>z.elim id fun z=>z▸h⟩
 · simp
theorem FP{l:List Str}{m:Str}(h:l.Nodup):(DT l m).Nodup:=by
 unfold DT
 split
 · exact h
 · rename_i hm
   rw[aaO]
   exact⟨h,by simp,fun a ha b hb z=>hm (by rw[UK.mp hb] at z;exact z▸ha)⟩
theorem A9{dk:List (Key×V)}{l:List Str}(h:dk.map (·.1)=l.map sk)(m:Str)(v:V):(putK dk (sk m) v).map (·.1)=(DT l m).map sk:=by
 rw[pK,h]
 unfold DT
 by_cases e:m∈l
 · rw[aar (zp.mpr e),aar e]
 · rw[aak (fun z=>e (zp.mp z)),aak e,aaq];rfl
theorem A_:∀(more:List (Key×V))(dk:List (Key×V))(l r:List Str),dk.map (·.1)=l.map sk→more.map (·.1)=r.map sk→l.Nodup→∃l':List Str,(putAll dk more).map (·.1)=l'.map sk∧l'.Nodup∧∀m,m∈l'↔m∈l∨m∈r
 | [],dk,l,r,h1,h2,nd=>by
   have:r=[]:=by cases r with|nil=>rfl|cons _ _=>cases h2
   subst this
   exact⟨l,h1,nd,fun m=>by simp⟩
 | p::t,dk,l,r,h1,h2,nd=>by
   cases r with
   | nil=>cases h2
   | cons x r=>
     rw[aas,aas] at h2
     injection h2 with e1 e2
     rw[qS,e1]
     obtain⟨l',z1,z2,z3⟩:=A_ t (putK dk (sk x) p.2) (DT l x) r (A9 h1 x _) e2 (FP nd)
     refine⟨l',z1,z2,fun m=>?_⟩
     rw[z3 m,DU,XY,or_assoc]
theorem E5{kvs:List (Key×V)}{l:List Str}{x:Str}(h:kvs.map (·.1)=l.map sk):(jT kvs (sk x)).map (·.1)=(l.filter fun y=>y≠x).map sk:=by
 induction kvs generalizing l with
 | nil=>
   cases l with
   | nil=>rfl
   | cons _ _=>cases h
 | cons p r ih=>
   cases l with
   | nil=>cases h
   | cons y t=>
     rw[aas,aas] at h
     injection h with e1 e2
     by_cases e:y=x
     · rw[vg (by rw[e1,e]),ih e2,X_ (by simpa using e)]
     · rw[vj (by rw[e1];exact fun z=>e (abU z)),XU (by simpa using e),aas,aas,ih e2,e1]
def jC(D:Dk)(s:Str)(l:List Str):Dk:=⟨D.made,D.ir,D.stores,fun t=>if t=s then l else D.held t⟩
theorem L6.jC{A:Ad}{H:Hp}{d:Addr}{D:Dk}{W:Addr→Prop}{π:Dp}{s:Str}{l:List Str}{kv:List (Key×V)}(x:L6 A H d D W π)(hs:s∈D.stores)(hk:kv.map (·.1)=l.map sk):L6 A (upd H (π.ha s) (.dK kv)) d (PK.jC D s l) W π:=by
 obtain⟨v1,v2,v3,v4,v5,Ws,v6,v7⟩:=x.vh s hs
 exact{
   hd:=by rw[de (i_ x.hd v6 (fun z=>by cases z))];exact x.hd
   hm:=by rw[de v3.symm];exact x.hm
   hn:=by rw[de v4.symm];exact x.hn
   hh:=by rw[de v5.symm];exact x.hh
   mn:=x.mn
   mh:=x.mh
   nh:=x.nh
   wm:=x.wm
   wn:=x.wn
   wh:=x.wh
   km:=x.km
   vm:=fun p hp=>by obtain⟨a,h1,h2⟩:=x.vm p hp;exact⟨a,h1,h2.dk v6⟩
   kn:=x.kn
   vn:=fun y hy=>by
     obtain⟨a,kv,l,h1,h2,h3,h4⟩:=x.vn y hy
     exact⟨a,kv,l,h1,h2,by rw[de (fun(z:a=π.ha s)=>h2 (by rw[z];exact v2))];exact h3,h4⟩
   kh:=x.kh
   vh:=fun t ht=>by
     obtain⟨h1,h2,h3,h4,h5,kv,h6,h7⟩:=x.vh t ht
     refine⟨h1,h2,h3,h4,h5,?_⟩
     show ∃kv:List (Key×V),_∧kv.map (·.1)=(if t=s then l else D.held t).map sk
     by_cases e:t=s
     · subst e
       rw[aar rfl]
       exact⟨_,b_,hk⟩
     · rw[aak e]
       exact⟨kv,by rw[de (fun z=>e (x.inj t ht s hs z))];exact h6,h7⟩
   inj:=x.inj
   dk:=fun b hb=>by
     by_cases e:b=π.ha s
     · rw[e];exact⟨_,b_⟩
     · obtain⟨kv,h⟩:=x.dk b hb;exact⟨kv,by rw[de e];exact h⟩}
section
variable{P:Program}{w:World}{K:PySem.W.Frag}{mg:Str→Option Value}{base:Heap}{A:Ad}
def Lf(A:Ad):Sp:=fun vs H Q E=>∃(d:Addr)(D:Dk)(W:Addr→Prop)(s:Str),vs=[.ref d,.str s]∧ip A H d D W∧jO s∧D.stores.length<1000∧(¬Good s→E (.ref A.jj) none H)∧(Good s→s∈D.stores→E (.ref A.i9) none H)∧
 (Good s→s∉D.stores→∀H' W',ip A H' d (D.begin s) W'→mU W H H'→(∀b,W' b→W b∨H b=none)→Q .jx H')
theorem DV(T:Txt mg)(O:Ok K mg A):iw P w K mg base (tw P w) 2 A.uJ A.uK ["self","store"] (Lf A):=by
 have qp:=sW (P:=P) (w:=w) (base:=base) T O
 refine O.tN.f.CF Ac (fun vs H Q E h=>?_) (fun jL A0 outer s H vs Q E hr h=>?_)
 · obtain⟨d,D,W,s,rfl,_⟩:=h
   rfl
 · obtain⟨d,D,W,st,rfl,X,hf,hlen,q1,q2,q3⟩:=h
   obtain⟨π,x⟩:=id X
   have sz:sizeLine=16777216:=aat
   refine⟨_,(c_ (hZ (US bx O.tM qp hr (a_ (pv 1) d_)))
     (c_ (iF (jn (oP (by exact il hr) (pv 1) (gz (pv 0) rfl))) (e_ (j9 bx O.xv (by rfl) (lC (iz ja (iz (my (pv 1)) (iz ja nH)))))) ib)
     (e_ (jB (by exact il hr) (gz (pv 0) rfl) (pv 1) nF rfl)))),?_⟩
   refine Fz ?_;intro _ _
   refine⟨_,rfl,st,rfl,hf,fun g=>?_,fun ng=>q1 ng⟩
   refine⟨_,rfl,_,rfl,d,A.gk,π.dx,_,_,rfl,x.hd,O.gq,O.iB,kU _ _ _,π.h,_,rfl,jb.k (k:=sk st) x.hh,_,rfl,?_⟩
   rw[ki x.kh]
   by_cases hs:st∈D.stores
   · rw[VE hs]
     refine lU ⟨_,rfl,by decide+kernel,⟨_,rfl,_,rfl,hf.1,_,rfl,hf.1,⟨_,rfl,by decide+kernel,fun _=>q2 g hs⟩⟩⟩
   · rw[aaa hs]
     refine jU ?_
     intro p rV
     have fr:∀{b o},H b=some o→b≠p:=fun e=>gc e rV
     have RE:(upd H p (.dK [])) π.h=some (.dK π.kH):=by rw[de (fr x.hh)];exact x.hh
     have Hz:=ke x.kh
     refine⟨_,rfl,d,A.gk,π.dx,_,_,rfl,by rw[de (fr x.hd)];exact x.hd,O.gq,O.iB,kU _ _ _,_,rfl,π.h,_,rfl,mY.k (k:=sk st) RE (by omega),?_⟩
     have s1:gg H (upd H p (.dK [])):=(gg.refl H).new rV
     have up:∀{b o},H b=some o→b≠π.h→upd (upd H p (.dK [])) π.h (.dK (putK π.kH (sk st) (.ref p))) b=some o:=fun{b o} e n=>by rw[de n];exact s1 _ _ e
     have Wt:p≠π.h:=(fr x.hh).symm
     refine q3 g hs _ (fun b=>W b∨b=p) ⟨⟨π.dx,π.m,π.n,π.h,fun t=>if t=st then p else π.ha t,π.kM,π.kN,putK π.kH (sk st) (.ref p)⟩,?_⟩ (fun b o e nw=>?_) (fun b hb=>?_)
     · exact{
         hd:=up x.hd (i_ x.hd x.hh (fun z=>by cases z))
         hm:=up x.hm x.mh
         hn:=up x.hn x.nh
         hh:=b_
         mn:=x.mn
         mh:=x.mh
         nh:=x.nh
         wm:=.inl x.wm
         wn:=.inl x.wn
         wh:=.inl x.wh
         km:=x.km
         vm:=fun q hq=>by obtain⟨a,h1,h2⟩:=x.vm q hq;exact⟨a,h1,(h2.same s1).dk RE⟩
         kn:=x.kn
         vn:=fun y hy=>by
           obtain⟨a,kv,l,h1,h2,h3,h4⟩:=x.vn y hy
           exact⟨a,kv,l,h1,fun z=>z.elim h2 (fr h3),up h3 (fun(z:a=π.h)=>h2 (by rw[z];exact x.wh)),h4⟩
         kh:=pL x.kh hs _
         vh:=fun t ht=>by
           show iS (putK π.kH (sk st) (.ref p)) (sk t)=some (.ref (if t=st then p else π.ha t))∧(W (if t=st then p else π.ha t)∨(if t=st then p else π.ha t)=p)∧(if t=st then p else π.ha t)≠π.m∧(if t=st then p else π.ha t)≠π.n∧(if t=st then p else π.ha t)≠π.h∧∃kv:List (Key×V),(upd (upd H p (.dK [])) π.h (.dK (putK π.kH (sk st) (.ref p)))) (if t=st then p else π.ha t)=some (.dK kv)∧kv.map (·.1)=(if t=st then[] else D.held t).map sk
           rw[j8]
           by_cases e:t=st
           · subst e
             rw[aar rfl,aar rfl,aar rfl]
             exact⟨rfl,.inr rfl,(fr x.hm).symm,(fr x.hn).symm,Wt,[],by rw[de Wt];exact b_,rfl⟩
           · have Po:t∈D.stores:=(XW.mp ht).elim id fun z=>absurd (UK.mp z) e
             rw[aak (fun z=>e (abU z)),aak e,aak e]
             obtain⟨h1,h2,h3,h4,h5,kv,h6,h7⟩:=x.vh t Po
             exact⟨h1,.inl h2,h3,h4,h5,kv,up h6 h5,h7⟩
         inj:=fun t ht u hu e=>by
           have e:(if t=st then p else π.ha t)=(if u=st then p else π.ha u):=e
           by_cases e1:t=st
           · by_cases e2:u=st
             · rw[e1,e2]
             · have Wu:u∈D.stores:=(XW.mp hu).elim id fun z=>absurd (UK.mp z) e2
               rw[aar e1,aak e2] at e
               obtain⟨_,_,_,_,_,kv,h6,_⟩:=x.vh u Wu
               exact absurd e.symm (fr h6)
           · have Po:t∈D.stores:=(XW.mp ht).elim id fun z=>absurd (UK.mp z) e1
             by_cases e2:u=st
             · rw[aak e1,aar e2] at e
               obtain⟨_,_,_,_,_,kv,h6,_⟩:=x.vh t Po
               exact absurd e (fr h6)
             · have Wu:u∈D.stores:=(XW.mp hu).elim id fun z=>absurd (UK.mp z) e2
               rw[aak e1,aak e2] at e
               exact x.inj t Po u Wu e
         dk:=fun b hb=>by
           by_cases e:b=π.h
           · rw[e];exact⟨_,b_⟩
           · rcases hb with hb|hb
             · obtain⟨kv,h⟩:=x.dk b hb;exact⟨kv,up h e⟩
             · rw[hb];exact⟨[],by rw[de Wt];exact b_⟩}
     · exact up e (fun(z:b=π.h)=>nw (by rw[z];exact x.wh))
     · rcases hb with hb|hb
       · exact .inl hb
       · rw[hb];exact .inr rV
def QK(A:Ad):Sp:=fun vs H Q E=>∃(d l:Addr)(D:Dk)(W:Addr→Prop)(x:Str)(fs:List Str),vs=[.ref d,.str x,.ref l]∧ip A H d D W∧H l=some (.lst (gi fs))∧fs.length≤1000∧(∀y∈x::fs,jO y)∧
 ((¬∀y∈x::fs,Good y)→∀H',gg H H'→E (.ref A.jj) none H')∧((∀y∈x::fs,Good y)→x∈D.names→∀H',gg H H'→E (.ref A.i9) none H')∧((∀y∈x::fs,Good y)→x∉D.names→∀H',gg H H'→Q .jx H')
theorem qo(T:Txt mg)(O:Ok K mg A):iw P w K mg base (tw P w) 2 A.pE A.pF ["self","patch","files"] (QK A):=by
 have qp:=sW (P:=P) (w:=w) (base:=base) T O
 refine O.lO.f.CF oA (fun vs H Q E h=>?_) (fun jL A0 outer s H vs Q E hr h=>?_)
 · obtain⟨d,l,D,W,x,fs,rfl,_⟩:=h
   rfl
 · obtain⟨d,l,D,W,y,fs,rfl,X,hl,Y_,Mt,q1,q2,q3⟩:=h
   obtain⟨π,x⟩:=id X
   have sz:sizeLine=16777216:=aat
   refine⟨_,(c_ (iL Io rfl (iq (gn mw (iQ (a_ (pv 1) d_)) (pv 2))) (gr (i:=3) oA.nd rfl (Or.inl rfl)) (e_ (hZ (US bx O.tM qp hr (a_ (pv 3) d_)))))
     (e_ (iF (jn (oP (by exact il hr) (pv 1) (gz (pv 0) rfl))) (e_ (j9 bx O.xv (by rfl) (lC (iz ja (iz (my (pv 1)) (iz ja nH)))))) ib))),?_⟩
   refine Hw ?_;intro _
   refine⟨_,rfl,L2.jK,fun a ha=>?_⟩
   have s1:gg H (upd H a (.lst [V.str y])):=(gg.refl H).new ha
   refine⟨_,rfl,a,l,_,_,rfl,rfl,b_,s1 _ _ hl,by rw[Ro];show 1+_≤_;omega,fun b hb=>?_⟩
   have s2:=s1.new (o:=.lst ([V.str y]++gi fs)) hb
   have Ox:(upd (upd H a (.lst [V.str y])) b (.lst ([V.str y]++gi fs))) b=some (.lst (gi (y::fs))):=b_
   generalize upd (upd H a (.lst [V.str y])) b (.lst ([V.str y]++gi fs))=H2 at s2 Ox
   refine⟨b,rfl,⟨_,g_.of Ox⟩,i0 (K:=K) (a:=b) (xs:=gi (y::fs)) (fun i σ H3=>∃v,σ=[some (.ref d),some (.str y),some (.ref l),v]∧H3=H2∧∀z∈(y::fs).take i,Good z) ⟨none,rfl,rfl,fun z hz=>by rw[aa9] at hz;cases hz⟩ (fun i σ H3 _ ⟨_,_,e,_⟩=>by rw[e];exact g_.of Ox) ?_ ?_⟩
   · rintro i v σ H3 hx ⟨v0,rfl,rfl,hg⟩
     obtain⟨z,hz,rfl⟩:=jQ hx
     refine⟨_,rfl,z,rfl,Mt z (UT hz),fun g=>?_,fun ng=>q1 (fun h=>ng (h z (UT hz))) _ s2⟩
     refine⟨_,rfl,rfl,fun t ht=>?_⟩
     rw[take_snoc hz] at ht
     rcases XW.mp ht with ht|ht
     · exact hg t ht
     · rw[UK.mp ht];exact g
   · rintro σ H3 ⟨v0,rfl,rfl,hg⟩
     rw[Ro,aai] at hg
     refine⟨_,rfl,_,rfl,d,A.gk,π.dx,_,_,rfl,s2 _ _ x.hd,O.gq,O.iT,nY _ _ _,π.m,_,rfl,jb.k (k:=sk y) (s2 _ _ x.hm),_,rfl,?_⟩
     rw[ki x.km]
     have hf:=Mt y aal
     by_cases hm:y∈D.names
     · rw[VE hm]
       exact lU ⟨_,rfl,by decide+kernel,⟨_,rfl,_,rfl,hf.1,_,rfl,hf.1,⟨_,rfl,by decide+kernel,fun _=>q2 hg hm _ s2⟩⟩⟩
     · rw[aaa hm]
       exact q3 hg hm _ s2
def Lg(A:Ad):Sp:=fun vs H Q E=>∃(d:Addr)(D:Dk)(W:Addr→Prop)(s:Str),vs=[.ref d,.str s]∧ip A H d D W∧jO s∧tX D.made.length∧(s∉D.names→E (.ref A.jy) none H)∧(s∈D.names→∀p,H p=none→Q (.ref p) (upd H p (.lst (gi (D.jh s)))))
theorem DW(T:Txt mg)(O:Ok K mg A):iw P w K mg base (tw P w) 2 A.uL A.uM ["self","patch"] (Lg A):=by
 have u9:=Ap (P:=P) (w:=w) (base:=base) T O
 refine O.qk.f.CF sP (fun vs H Q E h=>?_) (fun jL A0 outer s H vs Q E hr h=>?_)
 · obtain⟨d,D,W,s,rfl,_⟩:=h
   rfl
 · obtain⟨d,D,W,st,rfl,X,hf,jK,qe,q⟩:=h
   obtain⟨π,x⟩:=id X
   have xV:D.made.length≤4000:=jK
   have sz:sizeLine=16777216:=aat
   refine⟨_,(c_ (hZ (Aa bx (pv 0) O.gq O.qK u9 hr (a_ (pv 1) d_)))
     (e_ (h_ (FA (yC uA (fO ni).names [2] rfl (By (gz (pv 0) rfl)) rfl (by decide+kernel) (fun _ _ _ _=>(gr (i:=2) sP.nd rfl (Or.inl rfl))) (fun _ _ _ _=>⟨_,nG (jn (oP (by exact il hr) (pv 2) (i3 (by exact il hr) (gz (pv 0) rfl) (pv 1) (fun _ _=>rfl)))),by(try simp only [iu]);rfl⟩) (fun _ _ _ _=>⟨_,(pv 2),by(try simp only [iu]);rfl⟩)))))),?_⟩
   refine Hw ?_;intro _
   refine⟨_,rfl,d,π.dx,_,rfl,x.hd,(DS _ _ _).2.2.2.1,_,rfl,d,D,W,st,rfl,X,hf,fun hs=>?_,fun hs=>qe hs⟩
   obtain⟨a,kv,l,v1,hnw,v2,v3,_,v4⟩:=x.vn st hs
   have sX:a≠π.m:=fun z=>hnw (by rw[z];exact x.wm)
   refine⟨_,rfl,d,A.gk,π.dx,_,_,rfl,x.hd,O.gq,O.iT,nY _ _ _,π.m,π.kM,rfl,x.hm,fun o uz=>?_⟩
   have Hz:=ke x.km
   have JU:D.names.length=D.made.length:=by unfold Dk.names;rw[Ro]
   have Pn:d≠π.m:=i_ x.hd x.hm (fun z=>by cases z)
   have f:∀{b u},H b=some u→b≠π.m→upd H π.m (.mK o (.dK π.kM)) b=some u:=fun{b u} e n=>by rw[de n];exact e
   refine FD (by omega) (fun i ys σ H3=>∃(v2:Option V)(zs:List Str),σ=[some (.ref d),some (.str st),v2]∧H3=upd H π.m (.mK o (.dK π.kM))∧ys=gi zs∧zs=(D.names.take i).filter fun x=>x∈D.ir st) ⟨none,[],rfl,rfl,rfl,rfl⟩ (fun i ys σ H3 ⟨_,zs,_,e,e2,e3⟩=>?_) ?_ ?_
   · rw[e,e2,e3]
     refine⟨b_,?_⟩
     rw[Ro]
     exact aab (aaB _ _) (by rw[aav];omega)
   · rintro i k v ys σ H3 hi ⟨v0,zs,rfl,rfl,rfl,e3⟩
     obtain⟨y,hy,rfl⟩:=vW x.km hi
     refine⟨_,rfl,_,rfl,d,A.gk,π.dx,_,_,rfl,f x.hd Pn,O.gq,O.jf,sr _ _ _,_,rfl,π.n,.ref a,rfl,?_,a,_,rfl,jb.k (k:=sk y) (f v2 sX),_,rfl,?_⟩
     · have:=jb.k (k:=sk st) (f x.hn x.mn.symm)
       rw[v1] at this
       exact this
     · rw[ki v3,take_snoc hy,aay]
       by_cases hm:y∈D.ir st
       · rw[VE ((v4 y).mpr hm)]
         refine lU ⟨_,rfl,_,_,rfl,rfl,iW _ _,?_⟩
         rw[e3,XU (by simpa using hm),aaL]
       · rw[aaa (fun z=>hm ((v4 y).mp z))]
         refine jU ⟨_,_,rfl,rfl,rfl,?_⟩
         rw[e3,X_ (by simpa using hm),aaL,aaF]
   · rintro ys σ H3 ⟨v0,zs,rfl,rfl,rfl,e3⟩ p rV
     rw[Hz,aai] at e3
     have Fe:p≠π.m:=fun z=>by rw[z,b_] at rV;cases rV
     have Fc:H p=none:=by rw[de Fe] at rV;exact rV
     refine⟨π.m,o,_,by rw[de Fe.symm];exact b_,uz,?_⟩
     rw[Bw x.hm Fe]
     have:=q hs p Fc
     unfold Dk.jh at this
     rw[←e3] at this
     exact this
end
section
variable{P:Program}{w:World}{K:PySem.W.Frag}{mg:Str→Option Value}{base:Heap}{A:Ad}
def NP(A:Ad):Sp:=fun vs H Q _=>∃(d a:Addr)(D:Dk)(W:Addr→Prop)(s:Str)(p:Pt),vs=[.ref d,.str s,.ref a]∧ip A H d D W∧Inv D∧tX D.made.length∧s∈D.stores∧n5 A H a p∧p.nm∉D.names∧tX p.iH.length∧tX p.j2.length∧(∀y∈iN p,y∈D.names)∧
 ∀H',ip A H' d (D.keep s p) W→mU W H H'→Q .jx H'
theorem B6(p:Pt):(iN p).length≤p.j2.length+2*p.iH.length+1:=by
 unfold iN
 rw[VJ,Ro]
 have h1:=aaB (fun n:Nm=>decide (n.1≠p.nm)) (named p)
 have h2:=A8 p
 have h3:p.other.toList.length≤1:=by cases p.other<;>simp
 omega
theorem B7(T:Txt mg)(O:Ok K mg A):iw P w K mg base m_ 3 A.xa A.xb ["self","store","patch"] (NP A):=by
 have sG:=rO (P:=P) (w:=w) (base:=base) T O
 refine O.sh.f.ok qg (fun vs H Q E h=>?_) (fun jL A0 outer s H vs Q E hr h=>?_)
 · obtain⟨d,a,D,W,s,p,rfl,_⟩:=h
   rfl
 · obtain⟨d,a,D,W,st,p,rfl,X,I,jK,hs,Kg,fresh,Fd,D7,xS,q⟩:=h
   obtain⟨π,x⟩:=id X
   have xV:D.made.length≤4000:=jK
   have Mp:p.iH.length≤4000:=Fd
   have JW:p.j2.length≤4000:=D7
   have sz:sizeLine=16777216:=aat
   have JU:D.names.length=D.made.length:=by unfold Dk.names;rw[Ro]
   have Q9:=B6 p
   refine⟨_,(c_ (gs (i:=3) qg.nd rfl (Or.inl rfl) nF)
     (c_ (iL PassesOwn.never rfl (iq (pN O.oJ sG hr (a_ (pv 2) d_))) (gr (i:=4) qg.nd rfl (Or.inl rfl)) (c_ (jB (by exact il hr) (pv 3) (pv 4) kS rfl)
     (e_ (hZ (IM (pv 3) (i3 (by exact il hr) (gz (pv 0) rfl) (pv 4) (fun _ _=>rfl)) ⟨rfl,rfl,rfl,rfl⟩)))))
     (c_ (jB (by exact il hr) (gz (pv 0) rfl) (gz (pv 2) rfl) (pv 3) rfl)
     (c_ (jB (by exact il hr) (gz (pv 0) rfl) (gz (pv 2) rfl) (pv 2) rfl)
     (e_ (jB (by exact il hr) (i3 (by exact il hr) (gz (pv 0) rfl) (pv 1) (fun _ _=>rfl)) (gz (pv 2) rfl) kS rfl)))))),?_⟩
   refine Qd ?_;intro _ _ _ _
   intro nd Oh
   have s1:gg H (upd H nd (.dK [])):=(gg.refl H).new Oh
   have OF:(upd H nd (.dK [])) nd=some (.dK []):=b_
   generalize upd H nd (.dK [])=H1 at s1 OF
   refine⟨_,rfl,a,p,rfl,Kg.same s1,Fd,D7,fun r H2 s2 sv Ax=>?_⟩
   have qL:=s1.trans s2
   have hrn:r≠nd:=fun z=>by rw[z,OF] at sv;cases sv
   have TQ:¬W nd:=X.jx Oh
   refine⟨r,rfl,⟨_,g_.of Ax⟩,i0 (K:=K) (a:=r) (xs:=gi (iN p)) (fun i σ H3=>∃(v:Option V)(kv:List (Key×V))(l:List Str),σ=[some (.ref d),some (.str st),some (.ref a),some (.ref nd),v]∧(∀b o,H2 b=some o→b≠nd→H3 b=some o)∧H3 nd=some (.dK kv)∧kv.map (·.1)=l.map sk∧l.Nodup∧∀y,y∈l↔∃z∈(iN p).take i,y=z∨y∈D.ir z)
     ⟨none,[],[],rfl,fun b o e _=>e,s2 _ _ OF,rfl,aa6,fun y=>by simp⟩ (fun i σ H3 _ ⟨_,_,_,_,e,_⟩=>g_.of (e _ _ Ax hrn)) ?_ ?_⟩
   · rintro i v σ H3 hx ⟨v0,kv,l,rfl,e1,e2,e3,e4,e5⟩
     obtain⟨z,hz,rfl⟩:=jQ hx
     have R7:z∈iN p:=UT hz
     have R8:z∈D.names:=xS z R7
     obtain⟨az,kz,lz,z1,z2,z3,z4,z5,z6⟩:=x.vn z R8
     have xT:∀y∈l,y∈D.names:=fun y hy=>by
       obtain⟨t,ht,h⟩:=(e5 y).mp hy
       have Za:=xS t (List.mem_of_mem_take ht)
       rcases h with h|h
       · rw[h];exact Za
       · exact I.yc Za h
     have Tv:=rQ e4 xT
     have hlz:=rQ z5 fun y hy=>I.yc R8 ((z6 y).mp hy)
     have Hz:=ke e3
     have hkz:=ke z4
     have Om:=jv kv (sk z) (V.bl true)
     have Wv:az≠nd:=fun e=>by rw[e,Oh] at z3;cases z3
     refine⟨_,rfl,_,rfl,nd,_,rfl,mY.k (k:=sk z) e2 (by omega),?_⟩
     have up:∀{b o},H b=some o→upd H3 nd (.dK (putK kv (sk z) (V.bl true))) b=some o:=fun{b o} e=>by
       have n:b≠nd:=fun z=>by rw[z,Oh] at e;cases e
       rw[de n];exact e1 _ _ (qL _ _ e) n
     refine⟨_,rfl,nd,rfl,.inl ⟨_,.inl b_⟩,_,rfl,d,A.gk,π.dx,_,_,rfl,up x.hd,O.gq,O.jf,sr _ _ _,_,rfl,π.n,.ref az,rfl,?_,az,_,kz,rfl,b_,.inl (up z3),Wv.symm,by omega,?_⟩
     · have:=jb.k (k:=sk z) (up x.hn)
       rw[z1] at this
       exact this
     · obtain⟨l',w1,w2,w3⟩:=A_ kz _ (DT l z) lz (A9 e3 z (V.bl true)) z4 (FP e4)
       refine⟨_,_,l',rfl,fun b o e n=>by rw[de n,de n];exact e1 b o e n,b_,w1,w2,fun y=>?_⟩
       rw[w3 y,DU,e5 y,z6 y,take_snoc hz]
       constructor
       · rintro((⟨t,ht,h⟩|h)|h)
         · exact⟨t,aap _ ht,h⟩
         · exact⟨z,by simp,.inl h⟩
         · exact⟨z,by simp,.inr h⟩
       · rintro⟨t,ht,h⟩
         rcases XW.mp ht with ht|ht
         · exact .inl (.inl ⟨t,ht,h⟩)
         · rw[UK.mp ht] at h
           exact h.elim (fun h=>.inl (.inr h)) .inr
   · rintro σ H3 ⟨v0,kv,l,rfl,e1,e2,e3,e4,e5⟩
     rw[Ro,aai] at e5
     have s3:gg H H3:=fun b o e=>e1 b o (qL _ _ e) (fun z=>by rw[z,Oh] at e;cases e)
     obtain⟨dx,vf,pu,cu,vo,g1,g2⟩:=Kg.same s3
     have y:=x.same s3
     have hnM:=ke x.km
     have hnN:=ke x.kn
     obtain⟨v1,v2,v3,v4,v5,Ws,v6,v7⟩:=y.vh st hs
     have hkv0:=ke v7
     have hhl:=rQ (I.uk st hs) fun t ht=>(I.lS st hs t ht).1
     refine⟨_,rfl,_,rfl,d,A.gk,π.dx,_,_,rfl,y.hd,O.gq,O.jf,sr _ _ _,_,rfl,a,A.hV,dx,_,_,rfl,g1,O.jt,O.iZ,rH,π.n,_,rfl,mY.k (k:=sk p.nm) y.hn (by omega),?_⟩
     have f1:∀{b o},H3 b=some o→b≠π.n→upd H3 π.n (.dK (putK π.kN (sk p.nm) (.ref nd))) b=some o:=fun{b o} e n=>by rw[de n];exact e
     have Kf:d≠π.n:=i_ y.hd y.hn (fun z=>by cases z)
     have Zb:a≠π.n:=i_ g1 y.hn (fun z=>by cases z)
     have Pn:d≠π.m:=i_ y.hd y.hm (fun z=>by cases z)
     have ham:a≠π.m:=i_ g1 y.hm (fun z=>by cases z)
     refine⟨_,rfl,_,rfl,d,A.gk,π.dx,_,_,rfl,f1 y.hd Kf,O.gq,O.iT,nY _ _ _,_,rfl,a,A.hV,dx,_,_,rfl,f1 g1 Zb,O.jt,O.iZ,rH,π.m,_,rfl,mY.k (k:=sk p.nm) (f1 y.hm x.mn) (by omega),?_⟩
     have f2:∀{b o},H3 b=some o→b≠π.n→b≠π.m→upd (upd H3 π.n (.dK (putK π.kN (sk p.nm) (.ref nd)))) π.m (.dK (putK π.kM (sk p.nm) (.ref a))) b=some o:=fun{b o} e n m=>by rw[de m];exact f1 e n
     refine⟨_,rfl,d,A.gk,π.dx,_,_,rfl,f2 y.hd Kf Pn,O.gq,O.iB,kU _ _ _,_,rfl,π.h,.ref (π.ha st),rfl,?_,_,rfl,a,A.hV,dx,_,_,rfl,f2 g1 Zb ham,O.jt,O.iZ,rH,π.ha st,_,rfl,mY.k (k:=sk p.nm) (f2 v6 v4 v3) (by omega),?_⟩
     · have:=jb.k (k:=sk st) (f2 y.hh x.nh.symm x.mh.symm)
       rw[v1] at this
       exact this
     · have hpn:p.nm∉D.held st:=fun z=>fresh (I.lS st hs _ z).1
       have f3:∀{b o},H3 b=some o→b≠π.n→b≠π.m→b≠π.ha st→upd (upd (upd H3 π.n (.dK (putK π.kN (sk p.nm) (.ref nd)))) π.m (.dK (putK π.kM (sk p.nm) (.ref a)))) (π.ha st) (.dK (putK Ws (sk p.nm) (V.bl true))) b=some o:=fun{b o} e n m h=>by rw[de h];exact f2 e n m
       have f4:∀{b q},n5 A H3 b q→n5 A (upd (upd (upd H3 π.n (.dK (putK π.kN (sk p.nm) (.ref nd)))) π.m (.dK (putK π.kM (sk p.nm) (.ref a)))) (π.ha st) (.dK (putK Ws (sk p.nm) (V.bl true)))) b q:=fun z=>((z.dk y.hn).dk (f1 y.hm x.mn)).dk (f2 v6 v4 v3)
       have nW:∀{b},¬W b→b≠π.n∧b≠π.m∧b≠π.ha st:=fun{b} h=>⟨fun z=>h (by rw[z];exact x.wn),fun z=>h (by rw[z];exact x.wm),fun z=>h (by rw[z];exact v2)⟩
       refine q _ ⟨{π with kM:=putK π.kM (sk p.nm) (.ref a),kN:=putK π.kN (sk p.nm) (.ref nd)},?_⟩ fun b o e n=>f3 (s3 _ _ e) (nW n).1 (nW n).2.1 (nW n).2.2
       have Fg:(D.keep st p).names=D.names++[p.nm]:=by
         show(D.made++[p]).map (·.nm)=_
         rw[aaq];rfl
       exact{
         hd:=f3 y.hd Kf Pn (i_ y.hd v6 (fun z=>by cases z))
         hm:=by
           show upd _ (π.ha st) _ π.m=_
           rw[de v3.symm];exact b_
         hn:=by
           show upd _ (π.ha st) _ π.n=_
           rw[de v4.symm,de x.mn.symm];exact b_
         hh:=f3 y.hh x.nh.symm x.mh.symm v5.symm
         mn:=x.mn
         mh:=x.mh
         nh:=x.nh
         wm:=x.wm
         wn:=x.wn
         wh:=x.wh
         km:=by rw[Fg];exact pL x.km fresh _
         vm:=fun q hq=>by
           show ∃b,iS (putK π.kM (sk p.nm) (.ref a)) (sk q.nm)=some (.ref b)∧_
           rw[j8]
           rcases XW.mp hq with hq|hq
           · obtain⟨b,w1,w2⟩:=y.vm q hq
             have sX:q.nm≠p.nm:=fun z=>fresh (by rw[←z];exact aac hq)
             rw[aak (fun z=>sX (abU z))]
             exact⟨b,w1,f4 w2⟩
           · rw[UK.mp hq,aar rfl]
             exact⟨a,rfl,f4 (Kg.same s3)⟩
         kn:=by rw[Fg];exact pL x.kn fresh _
         vn:=fun t ht=>by
           rw[Fg] at ht
           show ∃(b:Addr)(kv:List (Key×V))(l:List Str),iS (putK π.kN (sk p.nm) (.ref nd)) (sk t)=some (.ref b)∧¬W b∧_∧kv.map (·.1)=l.map sk∧l.Nodup∧∀u,u∈l↔u∈(if t=p.nm then sd D.ir p else D.ir t)
           rw[j8]
           by_cases e:t=p.nm
           · rw[aar (by rw[e]),aar e]
             refine⟨nd,kv,l,rfl,TQ,f3 e2 (nW TQ).1 (nW TQ).2.1 (nW TQ).2.2,e3,e4,fun u=>?_⟩
             rw[e5 u]
             unfold sd
             rw[aa2]
             exact⟨fun⟨z,h1,h2⟩=>⟨z,h1,XY.mpr h2⟩,fun⟨z,h1,h2⟩=>⟨z,h1,XY.mp h2⟩⟩
           · rw[aak (fun z=>e (abU z)),aak e]
             have Po:t∈D.names:=(XW.mp ht).elim id fun z=>absurd (UK.mp z) e
             obtain⟨b,Ww,l',w1,w2,w3,w4⟩:=y.vn t Po
             exact⟨b,Ww,l',w1,w2,f3 w3 (nW w2).1 (nW w2).2.1 (nW w2).2.2,w4⟩
         kh:=x.kh
         vh:=fun t ht=>by
           obtain⟨h1,h2,h3,h4,h5,Ww,h6,h7⟩:=y.vh t ht
           refine⟨h1,h2,h3,h4,h5,?_⟩
           show ∃kv:List (Key×V),_∧kv.map (·.1)=(if t=st then D.held st++[p.nm] else D.held t).map sk
           by_cases e:t=st
           · subst e
             rw[aar rfl]
             exact⟨_,b_,pL v7 hpn _⟩
           · rw[aak e]
             exact⟨Ww,f3 h6 h4 h3 (fun z=>e (x.inj t ht st hs z)),h7⟩
         inj:=x.inj
         dk:=fun b hb=>by
           by_cases h1:b=π.ha st
           · rw[h1];exact⟨_,b_⟩
           · by_cases h2:b=π.m
             · rw[h2,de v3.symm];exact⟨_,b_⟩
             · by_cases h3:b=π.n
               · rw[h3,de v4.symm,de x.mn.symm];exact⟨_,b_⟩
               · obtain⟨kv,h⟩:=y.dk b hb
                 exact⟨kv,f3 h h3 h2 h1⟩}
end
section
variable{P:Program}{w:World}{K:PySem.W.Frag}{mg:Str→Option Value}{base:Heap}{A:Ad}
theorem vX(D:Dk)(s x:Str):D.take s x=jC D s (D.held s++D.nc s x):=rfl
theorem Ba(D:Dk)(s x:Str):D.drop s x=jC D s ((D.held s).filter fun y=>y≠x):=rfl
theorem vY(D:Dk)(s:Str)(l l':List Str):jC (jC D s l) s l'=jC D s l':=by
 unfold jC
 congr 1
 funext t
 show(if t=s then l' else(if t=s then l else D.held t))=_
 by_cases e:t=s
 · rw[aar e,aar e]
 · rw[aak e,aak e,aak e]
theorem G7(D:Dk)(s:Str):jC D s (D.held s)=D:=by
 cases D
 unfold jC
 congr 1
 funext t
 show(if t=s then _ else _)=_
 by_cases e:t=s
 · rw[aar e,e]
 · rw[aak e]
def NQ(A:Ad):Sp:=fun vs H Q E=>∃(d:Addr)(D:Dk)(W:Addr→Prop)(s c x:Str),vs=[.ref d,.str s,.str c,.str x]∧ip A H d D W∧Inv D∧tX D.made.length∧jO s∧jO c∧jO x∧
 (s∉D.stores→E (.ref A.iM) none H)∧(s∈D.stores→c∉D.stores→E (.ref A.iM) none H)∧(s∈D.stores→c∈D.stores→x∉D.held c→E (.ref A.jy) none H)∧
 (s∈D.stores→c∈D.stores→x∈D.held c→∀p H1 H',gg H H1→H1 p=none→H' p=some (.lst (gi (D.nc s x)))→ip A H' d (D.take s x) W→mU W (upd H1 p (.lst (gi (D.nc s x)))) H'→Q (.ref p) H')
theorem E6{D:Dk}(I:Inv D){s x:Str}(hx:x∈D.names):(D.nc s x).Nodup∧∀y∈D.nc s x,y∈D.names∧y∉D.held s:=by
 refine⟨?_,fun y hy=>?_⟩
 · refine abL aaN ?_
   rw[aaO]
   refine⟨abL aaN I.nd,by simp,fun a ha b hb z=>?_⟩
   rw[UK.mp hb] at z
   subst z
   exact I.vE hx (aam (aao.mp ha).2)
 · obtain⟨h1,h2⟩:=aao.mp hy
   refine⟨?_,aam h2⟩
   rcases XW.mp h1 with h|h
   · exact(aao.mp h).1
   · rw[UK.mp h];exact hx
theorem FQ(T:Txt mg)(O:Ok K mg A):iw P w K mg base (tw P w) 3 A.wY A.wZ ["self","store","source","patch"] (NQ A):=by
 have ig:=jW (P:=P) (w:=w) (base:=base) T O
 have jJ:=oW (P:=P) (w:=w) (base:=base) T O
 have nu:=DW (P:=P) (w:=w) (base:=base) T O
 refine O.se.f.CF lJ (fun vs H Q E h=>?_) (fun jL A0 outer s H vs Q E hr h=>?_)
 · obtain⟨d,D,W,s,c,x,rfl,_⟩:=h
   rfl
 · obtain⟨d,D,W,st,c,y,rfl,X,I,jK,hf,Zc,Ff,q1,q2,q3,q4⟩:=h
   obtain⟨π,x⟩:=id X
   have xV:D.made.length≤4000:=jK
   have sz:sizeLine=16777216:=aat
   have JU:D.names.length=D.made.length:=by unfold Dk.names;rw[Ro]
   refine⟨_,(c_ (hZ (Aa bx (pv 0) O.gq O.iX ig hr (a_ (pv 1) d_)))
     (c_ (hZ (Aa bx (pv 0) O.gq O.iX ig hr (a_ (pv 2) d_)))
     (c_ (hZ (Aa bx (pv 0) O.gq O.kY jJ hr (a_ (pv 2) (a_ (pv 3) d_))))
     (c_ (gs (i:=4) lJ.nd rfl (Or.inl rfl) (gn mw (Aa bx (pv 0) O.gq O.qk nu hr (a_ (pv 3) d_)) (iQ (a_ (pv 3) d_))))
     (c_ (vp (j:=5) wI (fO ou).names [6] lJ.nd rfl rfl rfl (iq (pv 4)) rfl (by decide+kernel) (fun _ _ _ _=>(gr (i:=6) lJ.nd rfl (Or.inl rfl))) (fun _ _ _ _=>⟨_,nG (jn (lg (by exact il hr) (pv 6) (i3 (by exact il hr) (gz (pv 0) rfl) (pv 1) (fun _ _=>rfl)))),by(try simp only [iu]);rfl⟩) (fun _ _ _ _=>⟨_,(pv 6),by(try simp only [iu]);rfl⟩))
     (c_ (iL Io rfl (iq (pv 5)) (gr (i:=6) lJ.nd rfl (Or.inl rfl)) (e_ (jB (by exact il hr) (i3 (by exact il hr) (gz (pv 0) rfl) (pv 1) (fun _ _=>rfl)) (pv 6) kS rfl)))
     (e_ (h_ (pv 5))))))))),?_⟩
   refine XX ?_;intro _ _ _ _ _ _
   refine⟨_,rfl,d,π.dx,_,rfl,x.hd,(DS _ _ _).1,_,rfl,d,D,W,st,rfl,X,hf,fun hs=>?_,fun hs=>q1 hs⟩
   refine⟨_,rfl,d,π.dx,_,rfl,x.hd,(DS _ _ _).1,_,rfl,d,D,W,c,rfl,X,Zc,fun hc=>?_,fun hc=>q2 hs hc⟩
   refine⟨_,rfl,d,π.dx,_,rfl,x.hd,(DS _ _ _).2.2.1,_,rfl,_,rfl,d,D,W,c,y,rfl,X,Zc,Ff,hc,fun hy=>?_,fun hy=>q3 hs hc hy⟩
   have Zd:y∈D.names:=(I.lS c hc y hy).1
   have Tv:(D.jh y).length≤D.names.length:=aaB _ _
   refine⟨_,rfl,d,π.dx,_,rfl,x.hd,(xQ _ _ _).2.2.2.2.2.2.2.1,_,rfl,d,D,W,y,rfl,X,Ff,jK,fun h=>absurd Zd h,fun _ p rV=>?_⟩
   have s1:=(gg.refl H).new (o:=.lst (gi (D.jh y))) rV
   refine⟨_,rfl,L2.jK,fun b hb=>?_⟩
   have s2:=s1.new (o:=.lst [V.str y]) hb
   refine⟨p,b,_,_,rfl,rfl,iE hb b_,b_,by rw[Ro];show _+1≤_;omega,fun wt Pj=>?_⟩
   have s3:=s2.new (o:=.lst (gi (D.jh y)++[V.str y])) Pj
   have Wx:(upd (upd (upd H p (.lst (gi (D.jh y)))) b (.lst [V.str y])) wt (.lst (gi (D.jh y)++[V.str y]))) wt=some (.lst (gi (D.jh y++[y]))):=by rw[b_,iW]
   generalize upd (upd (upd H p (.lst (gi (D.jh y)))) b (.lst [V.str y])) wt (.lst (gi (D.jh y)++[V.str y]))=H3 at s3 Wx
   have x3:=x.same s3
   obtain⟨v1,v2,v3,v4,v5,kv,v6,v7⟩:=x3.vh st hs
   refine⟨_,rfl,wt,rfl,⟨_,g_.of Wx⟩,jP (K:=K) (a:=wt) (xs:=gi (D.jh y++[y])) (by rw[Ro,VJ];show _+1≤_;omega) (fun i ys σ H4=>∃(v6:Option V)(zs:List Str),σ=[some (.ref d),some (.str st),some (.str c),some (.str y),some (.ref wt),none,v6]∧H4=H3∧ys=gi zs∧zs.length≤i∧zs=((D.jh y++[y]).take i).filter fun z=>z∉D.held st)
     ⟨none,[],rfl,rfl,rfl,UU _,rfl⟩ (fun i ys σ H4 _ ⟨_,zs,_,e,e2,e3,_⟩=>by rw[e,e2];exact⟨g_.of Wx,by rw[Ro];exact e3⟩) ?_ ?_⟩
   · rintro i v ys σ H4 hx ⟨Wy,zs,rfl,rfl,rfl,e3,e4⟩
     obtain⟨z,hz,rfl⟩:=jQ hx
     refine⟨_,rfl,_,rfl,d,A.gk,π.dx,_,_,rfl,x3.hd,O.gq,O.iB,kU _ _ _,_,rfl,π.h,.ref (π.ha st),rfl,?_,π.ha st,_,rfl,jb.k (k:=sk z) v6,_,rfl,?_⟩
     · have:=jb.k (k:=sk st) x3.hh
       rw[v1] at this
       exact this
     · rw[ki v7,take_snoc hz,aay]
       by_cases hm:z∈D.held st
       · rw[VE hm]
         refine jU ⟨_,_,rfl,rfl,rfl,by omega,?_⟩
         rw[e4,X_ (by simpa using hm),aaL,aaF]
       · rw[aaa hm]
         refine lU ⟨_,rfl,_,_,rfl,rfl,iW _ _,L3,?_⟩
         rw[e4,XU (by simpa using hm),aaL]
   · rintro ys σ H4 ⟨Wy,zs,rfl,rfl,rfl,e3,e4⟩ cm LC
     have e0:(gi (D.jh y++[y])).length=(D.jh y++[y]).length:=by rw[Ro]
     rw[e0,aai] at e4
     have e4:zs=D.nc st y:=e4
     subst e4
     obtain⟨Ze,Zf⟩:=E6 (s:=st) I Zd
     have Mi:=rQ Ze fun t ht=>(Zf t ht).1
     have s4:=s3.new (o:=.lst (gi (D.nc st y))) LC
     have x4:=x.same s4
     have JX:(upd H4 cm (.lst (gi (D.nc st y)))) cm=some (.lst (gi (D.nc st y))):=b_
     have R9:¬W cm:=fun z=>by obtain⟨kv,e⟩:=x4.dk cm z;rw[JX] at e;cases e
     have R_:=fun H' a b c=>q4 hs hc hy cm H4 H' s3 LC a b c
     generalize upd H4 cm (.lst (gi (D.nc st y)))=H5 at s4 x4 JX R_
     refine⟨_,rfl,cm,rfl,⟨_,g_.of JX⟩,i0 (K:=K) (a:=cm) (xs:=gi (D.nc st y)) (fun i σ H6=>∃(v6:Option V)(π':Dp),σ=[some (.ref d),some (.str st),some (.str c),some (.str y),some (.ref wt),some (.ref cm),v6]∧L6 A H6 d (jC D st (D.held st++(D.nc st y).take i)) W π'∧mU W H5 H6)
       ⟨none,π,rfl,by rw[aa9,aaF,G7];exact x4,fun b o e _=>e⟩ (fun i σ H6 _ ⟨_,_,_,_,e⟩=>g_.of (e _ _ JX R9)) ?_ ?_⟩
     · rintro i v σ H6 hx ⟨Wy,π',rfl,x6,e6⟩
       obtain⟨z,hz,rfl⟩:=jQ hx
       have hi:i<(D.nc st y).length:=(Rt.mp hz).1
       obtain⟨w1,w2,w3,w4,w5,Zg,w6,w7⟩:=x6.vh st hs
       have w7:Zg.map (·.1)=(D.held st++(D.nc st y).take i).map sk:=by
         rw[w7]
         show(if st=st then _ else _:List Str).map sk=_
         rw[aar rfl]
       have Hz:=ke w7
       have hhl:=rQ (I.uk st hs) fun t ht=>(I.lS st hs t ht).1
       rw[VJ,aav] at Hz
       refine⟨_,rfl,d,A.gk,π'.dx,_,_,rfl,x6.hd,O.gq,O.iB,kU _ _ _,_,rfl,π'.h,.ref (π'.ha st),rfl,?_,_,rfl,π'.ha st,_,rfl,mY.k (k:=sk z) w6 (by omega),?_⟩
       · have:=jb.k (k:=sk st) x6.hh
         rw[w1] at this
         exact this
       · have Sb:z∉D.held st++(D.nc st y).take i:=fun hm=>by
           rcases XW.mp hm with hm|hm
           · exact(Zf z (UT hz)).2 hm
           · obtain⟨j,hj⟩:=aaH.mp hm
             have Hn:j<i:=by have:=(Rt.mp hj).1;rw[aav] at this;omega
             rw[abo,aar Hn] at hj
             have:=(abz (Rt.mp hj).1 Ze).mp (hj.trans hz.symm)
             omega
         have x7:=x6.jC (l:=D.held st++(D.nc st y).take (i+1)) (kv:=putK Zg (sk z) (V.bl true)) hs (by rw[take_snoc hz,←aaM];exact pL w7 Sb _)
         rw[vY] at x7
         exact⟨_,π',rfl,x7,fun b o e n=>by rw[de (fun(z:b=π'.ha st)=>n (by rw[z];exact w2))];exact e6 b o e n⟩
     · rintro σ H6 ⟨Wy,π',rfl,x6,e6⟩
       rw[Ro,aai,←vX] at x6
       exact⟨_,rfl,R_ H6 (e6 _ _ JX R9) ⟨π',x6⟩ e6⟩
def NR(A:Ad):Sp:=fun vs H Q E=>∃(d:Addr)(D:Dk)(W:Addr→Prop)(s x:Str),vs=[.ref d,.str s,.str x]∧ip A H d D W∧Inv D∧tX D.made.length∧jO s∧jO x∧(∀z∈D.names,jO z)∧
 (s∉D.stores→E (.ref A.iM) none H)∧(s∈D.stores→x∉D.held s→E (.ref A.jy) none H)∧(s∈D.stores→x∈D.held s→¬(∀z∈D.held s,x∉D.ir z)→E (.ref A.ie) none H)∧(s∈D.stores→x∈D.held s→(∀z∈D.held s,x∉D.ir z)→∀H',ip A H' d (D.drop s x) W→mU W H H'→Q .jx H')
theorem B8(T:Txt mg)(O:Ok K mg A):iw P w K mg base (tw P w) 2 A.w9 A.w_ ["self","store","patch"] (NR A):=by
 have ig:=jW (P:=P) (w:=w) (base:=base) T O
 have jJ:=oW (P:=P) (w:=w) (base:=base) T O
 refine O.pI.f.CF uy (fun vs H Q E h=>?_) (fun jL A0 outer s H vs Q E hr h=>?_)
 · obtain⟨d,D,W,s,x,rfl,_⟩:=h
   rfl
 · obtain⟨d,D,W,st,y,rfl,X,I,jK,hf,Ff,hfz,q1,q2,q3,q5⟩:=h
   obtain⟨π,x⟩:=id X
   have xV:D.made.length≤4000:=jK
   have sz:sizeLine=16777216:=aat
   refine⟨_,(c_ (hZ (Aa bx (pv 0) O.gq O.iX ig hr (a_ (pv 1) d_)))
     (c_ (hZ (Aa bx (pv 0) O.gq O.kY jJ hr (a_ (pv 1) (a_ (pv 2) d_))))
     (c_ (x9 (iL Io rfl (By (i3 (by exact il hr) (gz (pv 0) rfl) (pv 1) (fun _ _=>rfl))) (gr (i:=3) uy.nd rfl (Or.inl rfl)) (e_ (iF (jn (oP (by exact il hr) (pv 2) (i3 (by exact il hr) (gz (pv 0) rfl) (pv 3) (fun _ _=>rfl)))) (e_ (IT (j9 bx O.FJ (by rfl) (lC (iz (my (pv 3)) (iz ja (iz (my (pv 2)) nH))))))) ib))))
     (e_ (hZ (Ia (i3 (by exact il hr) (gz (pv 0) rfl) (pv 1) (fun _ _=>rfl)) (pv 2) ⟨rfl,rfl,rfl,rfl⟩)))))),?_⟩
   refine L0 ?_;intro _ _ _
   refine⟨_,rfl,d,π.dx,_,rfl,x.hd,(DS _ _ _).1,_,rfl,d,D,W,st,rfl,X,hf,fun hs=>?_,fun hs=>q1 hs⟩
   refine⟨_,rfl,d,π.dx,_,rfl,x.hd,(DS _ _ _).2.2.1,_,rfl,_,rfl,d,D,W,st,y,rfl,X,hf,Ff,hs,fun hy=>?_,fun hy=>q2 hs hy⟩
   obtain⟨v1,v2,v3,v4,v5,kv,v6,v7⟩:=x.vh st hs
   have Zh:jb H π.h (.str st) (some (.ref (π.ha st))):=by
     have:=jb.k (k:=sk st) x.hh
     rw[v1] at this
     exact this
   refine⟨_,rfl,d,A.gk,π.dx,_,_,rfl,x.hd,O.gq,O.iB,kU _ _ _,_,rfl,π.h,.ref (π.ha st),rfl,Zh,π.ha st,kv,rfl,v6,fun o uz=>?_⟩
   have f:∀{b u},H b=some u→b≠π.ha st→upd H (π.ha st) (.mK o (.dK kv)) b=some u:=fun{b u} e n=>by rw[de n];exact e
   have O9:d≠π.ha st:=i_ x.hd v6 (fun z=>by cases z)
   refine Iu (d:=π.ha st) (o:=o) (kvs:=kv) (fun i σ H3=>∃(v:Option V),σ=[some (.ref d),some (.str st),some (.str y),v]∧H3=upd H (π.ha st) (.mK o (.dK kv))∧∀z∈(D.held st).take i,y∉D.ir z) ⟨none,rfl,rfl,fun z hz=>by rw[aa9] at hz;cases hz⟩ (fun i σ H3 ⟨_,_,e,_⟩=>by rw[e];exact b_) ?_ ?_
   · rintro i k v σ H3 hi ⟨v0,rfl,rfl,Hh⟩
     obtain⟨z,hz,rfl⟩:=vW v7 hi
     have Zi:z∈D.held st:=UT hz
     have R8:=(I.lS st hs z Zi).1
     obtain⟨a,ka,la,w1,w2,w3,w4,_,w6⟩:=x.vn z R8
     refine⟨_,rfl,_,rfl,d,A.gk,π.dx,_,_,rfl,f x.hd O9,O.gq,O.jf,sr _ _ _,_,rfl,π.n,.ref a,rfl,?_,a,_,rfl,jb.k (k:=sk y) (f w3 (fun z=>w2 (by rw[z];exact v2))),_,rfl,?_⟩
     · have:=jb.k (k:=sk z) (f x.hn v4.symm)
       rw[w1] at this
       exact this
     · rw[ki w4]
       by_cases TR:y∈D.ir z
       · rw[VE ((w6 y).mpr TR)]
         refine lU ⟨π.ha st,o,_,b_,uz,?_⟩
         rw[vz v6]
         have Th:=(hfz z R8).1
         exact⟨_,rfl,_,rfl,Th,_,rfl,Th,⟨_,rfl,by decide+kernel,⟨_,rfl,_,rfl,Ff.1,_,rfl,Ff.1,fun _=>q3 hs hy fun h=>h z Zi TR⟩⟩⟩
       · rw[aaa (fun h=>TR ((w6 y).mp h))]
         refine jU ⟨_,rfl,rfl,fun t ht=>?_⟩
         rw[take_snoc hz] at ht
         rcases XW.mp ht with ht|ht
         · exact Hh t ht
         · rw[UK.mp ht];exact TR
   · rintro σ H3 ⟨v0,rfl,rfl,Ce⟩
     have Hz:=ke v7
     rw[Hz,aai] at Ce
     have q4:=q5 hs hy Ce
     refine⟨π.ha st,o,_,b_,uz,?_⟩
     rw[vz v6]
     have Cf:∃v,iS kv (sk y)=some v:=by
       have:=ki v7 y
       rw[VE hy] at this
       exact Option.isSome_iff_exists.mp this
     obtain⟨vv,hvv⟩:=Cf
     refine⟨_,rfl,d,A.gk,π.dx,_,_,rfl,x.hd,O.gq,O.iB,kU _ _ _,_,rfl,π.h,.ref (π.ha st),rfl,Zh,π.ha st,rfl,.inl ⟨_,.inl v6⟩,_,rfl,kv,sk y,vv,v6,rfl,hvv,?_⟩
     refine q4 _ ⟨π,?_⟩ fun b u e n=>by rw[de (fun(z:b=π.ha st)=>n (by rw[z];exact v2))];exact e
     rw[Ba]
     exact x.jC hs (E5 v7)
end
theorem zq(l:List Str):Paired (fun(x:Str) (v:V)=>v=.str x) l (gi l):=by
 induction l with
 | nil=>exact .nil
 | cons x r ih=>exact .cons rfl ih
theorem FR{n:Nat}{K:PySem.W.Frag}{H:Hp}{a c:Addr}{x y:List Str}(h1:g_ K H a (gi x))(h2:g_ K H c (gi y)):og K H (n+1) (.ref a) (.ref c) (decide (x=y)):=
 og.KH (F:=fun(x:Str) (v:V)=>v=.str x) (fun p q u v hu hv=>by subst hu hv;exact og.Ik p q) h1 h2 (zq x) (zq y)
def L8(n:Int):Int→List Int→Prop
 | _,[]=>True
 | l,p::r=>(l≤p∧p<n)∧L8 n (p+1) r
section
variable{P:Program}{w:World}{K:PySem.W.Frag}{mg:Str→Option Value}{base:Heap}{A:Ad}
def Jx(A:Ad):Sp:=fun vs H Q E=>∃(a:Addr)(ps:List Int)(n:Int),vs=[.ref a,.int n]∧H a=some (.lst (ps.map V.int))∧(∀p∈ps,p.natAbs.log2<1920)∧(L8 n 0 ps→Q .jx H)∧(¬L8 n 0 ps→E (.ref A.lL) none H)
theorem xR(T:Txt mg)(O:Ok K mg A):iw P w K mg base (tw P w) 1 A.rf A.rg ["places","size"] (Jx A):=by
 refine O.uQ.f.CF kX (fun vs H Q E h=>?_) (fun jL A0 outer s H vs Q E hr h=>?_)
 · obtain⟨a,ps,n,rfl,_⟩:=h
   rfl
 · obtain⟨a,ps,n,rfl,ha,OG,q,qe⟩:=h
   refine⟨_,(c_ (gs (i:=2) kX.nd rfl (Or.inl rfl) f_)
     (e_ (iL Io rfl (iq (pv 0)) (gr (i:=3) kX.nd rfl (Or.inl rfl)) (c_ (iF (nB (CO HL Fu (pv 2) (pv 3) (pv 1))) (e_ (j9 bx O.Je (by rfl) (lC (iz ja (iz (IA (pv 3)) (iz ja nH)))))) ib)
     (e_ (gs (i:=2) kX.nd rfl (Or.inl rfl) (gn iP (pv 3) f_))))))),?_⟩
   refine Hw ?_;intro _
   refine⟨_,rfl,a,rfl,⟨_,g_.of ha⟩,i0 (K:=K) (a:=a) (xs:=ps.map V.int) (fun i σ H2=>∃(l:Int)(v:Option V),σ=[some (.ref a),some (.int n),some (.int l),v]∧H2=H∧(L8 n 0 ps↔L8 n l (ps.drop i))) ⟨0,none,rfl,rfl,Iff.rfl⟩ (fun i σ H2 _ ⟨_,_,_,e,_⟩=>by rw[e];exact g_.of ha) ?_ ?_⟩
   · rintro i v σ H2 hx ⟨l,v0,rfl,rfl,e⟩
     rw[aah] at hx
     obtain⟨p,hp,rfl⟩:=aaC.mp hx
     have hi:i<ps.length:=(Rt.mp hp).1
     have hd:ps.drop i=p::ps.drop (i+1):=by rw[aaI hi];congr 1;exact(Rt.mp hp).2
     rw[hd] at e
     have hl:=OG p (UT hp)
     refine⟨_,rfl,_,rfl,_,_,rfl,rfl,_,rfl,?_⟩
     refine ku (fun h1=>?_) (fun h1=>?_)
     · have h1:l≤p:=by simpa using h1
       refine⟨_,rfl,_,_,rfl,rfl,_,rfl,?_⟩
       refine ku (fun h2=>?_) (fun h2=>?_)
       · have h2:¬p<n:=by simpa using h2
         refine⟨_,rfl,by decide+kernel,⟨_,rfl,_,rfl,hl,_,rfl,?_⟩⟩
         exact⟨aab (PyProof.Rows.int_text_len_1921 hl) (by decide),⟨_,rfl,by decide+kernel,fun _=>qe fun z=>h2 (e.mp z).1.2⟩⟩
       · have h2:p<n:=by simpa using h2
         refine⟨_,rfl,_,_,rfl,rfl,_,_,rfl,rfl,e.trans ⟨fun z=>z.2,fun z=>⟨⟨h1,h2⟩,z⟩⟩⟩
     · have h1:¬l≤p:=by simpa using h1
       refine⟨_,rfl,?_⟩
       refine⟨_,rfl,by decide+kernel,⟨_,rfl,_,rfl,hl,_,rfl,?_⟩⟩
       exact⟨aab (PyProof.Rows.int_text_len_1921 hl) (by decide),⟨_,rfl,by decide+kernel,fun _=>qe fun z=>h1 (e.mp z).1.1⟩⟩
   · rintro σ H2 ⟨l,v0,rfl,rfl,e⟩
     rw[Ro,abT] at e
     exact q (e.mpr trivial)
def QL(A:Ad):Sp:=fun vs H Q E=>∃(d t:Addr)(D:Dk)(W:Addr→Prop)(s x f:Str)(texts:List Str),vs=[.ref d,.str s,.str x,.str f,.ref t]∧ip A H d D W∧Inv D∧Small D.made∧(D.made.flatMap (·.iH)).length≤1000∧jO s∧jO x∧jO f∧H t=some (.lst (gi texts))∧texts.length≤1000∧
 (s∉D.stores→E (.ref A.iM) none H)∧
 (s∈D.stores→¬(Good x∧Good f)→∀H',gg H H'→E (.ref A.jj) none H')∧
 (s∈D.stores→Good x→Good f→x∈D.names→∀H',gg H H'→E (.ref A.i9) none H')∧
 (s∈D.stores→Good x→Good f→x∉D.names→D.xG s f≠[]→∀H',gg H H'→E (.ref A.jZ) none H')∧
 (s∈D.stores→Good x→Good f→x∉D.names→D.xG s f=[]→(D.row s f).map (·.tx)=texts→∀H',gg H H'→E (.ref A.qi) none H')∧
 (s∈D.stores→Good x→Good f→x∉D.names→D.xG s f=[]→(D.row s f).map (·.tx)≠texts→∀H',ip A H' d (D.keep s (mj x f (D.row s f) texts)) W→mU W H H'→Q .jx H')
theorem lq{x f:Str}:(∀y∈[x,f],Good y)↔Good x∧Good f:=by
 constructor
 · exact fun h=>⟨h x (by simp),h f (by simp)⟩
 · rintro⟨h1,h2⟩ y hy
   rcases XY.mp hy with z|z
   · rw[z];exact h1
   · rw[UK.mp z];exact h2
theorem uY{D:Dk}(I:Inv D){s f x:Str}(hs:s∈D.stores)(texts:List Str):∀y∈iN (mj x f (D.row s f) texts),y∈D.names:=by
 intro y hy
 unfold iN at hy
 rcases XW.mp hy with hy|hy
 · obtain⟨m,hm,rfl⟩:=aaA.mp hy
   obtain⟨hm,hn⟩:=aao.mp hm
   have hn:m.1≠x:=aam hn
   have fin:m∈(D.row s f).map (·.nm)→m.1∈D.names:=fun h=>by
     obtain⟨l,hl,rfl⟩:=aaA.mp h
     obtain⟨p,h1,_,h3⟩:=I.uo hl
     have hp:=(Inv.l7.mp h1).1
     rw[qT (I.GW p hp) (aac h3)]
     exact aac hp
   rcases XW.mp hm with hm|hm
   · obtain⟨l,hl,rfl⟩:=aaA.mp hm
     exact fin (aac (aao.mp hl).1)
   · obtain⟨l,hl,hm⟩:=aa2.mp hm
     have Oi:l.up=some m∨l.lo=some m:=by
       rcases XW.mp hm with hm|hm
       · exact .inl (by simpa using hm)
       · exact .inr (by simpa using hm)
     rcases ya texts 0 0 none l hl m Oi with(z|⟨t,z⟩)|z
     · cases z
     · obtain⟨q,_,_,l',Ho,rfl⟩:=BD z
       exact fin (aac (UT Ho))
     · rw[uj] at z
       obtain⟨j,_,rfl⟩:=aaA.mp z
       exact absurd rfl hn
 · cases hy
theorem uZ{x f:Str}{row:List Ln}{texts:List Str}:(mj x f row texts).iH.length≤texts.length∧(mj x f row texts).j2.length≤row.length:=by
 have rise:=r_ (row.map (·.tx)) texts
 rw[Ro] at rise
 have h:=FF rise x
 refine⟨by show(kA x texts _).length≤_;omega,?_⟩
 show((row.filter _).map _).length≤_
 rw[Ro]
 exact aaB _ _
theorem G8(T:Txt mg)(O:Ok K mg A):iw P w K mg base (tw P w) 6 A.sS A.sT ["self","store","patch","file","texts"] (QL A):=by
 have ig:=jW (P:=P) (w:=w) (base:=base) T O
 have jY:=qo (P:=P) (w:=w) (base:=base) T O
 have jl:=oK (P:=P) (w:=w) (base:=base) T O
 have kR:=rN (P:=P) (w:=w) (base:=base) T O
 have wk:=uX (P:=P) (w:=w) (base:=base) T O
 have mq:=B7 (P:=P) (w:=w) (base:=base) T O
 refine O.xu.f.CF nS (fun vs H Q E h=>?_) (fun jL A0 outer s H vs Q E hr h=>?_)
 · obtain⟨d,t,D,W,s,x,f,texts,rfl,_⟩:=h
   rfl
 · obtain⟨d,t,D,W,st,y,f,texts,rfl,X,I,sm,Wz,xx,Ff,OH,ht,Ol,q1,q2,q3,q4,q5,q6⟩:=h
   obtain⟨π,x⟩:=id X
   have sz:sizeLine=16777216:=aat
   have Ee:(D.row st f).length≤1000:=aab (I.uq st f) Wz
   refine⟨_,(c_ (hZ (Aa bx (pv 0) O.gq O.iX ig hr (a_ (pv 1) d_)))
     (c_ (hZ (Aa bx (pv 0) O.gq O.lO jY hr (a_ (pv 2) (a_ (iQ (a_ (pv 3) d_)) d_))))
     (c_ (gs (i:=5) nS.nd rfl (Or.inl rfl) (Aa bx (pv 0) O.gq O.kT jl hr (a_ (pv 1) (a_ (pv 3) d_))))
     (c_ (iF (uc (yq (pv 5) O.j5 O.jH.t kR (hr.mono (by decide)) O.jH.b .nil oa) (fun _=>rfl)) (e_ (j9 bx O.DD (by rfl) (lC (iz ja (iz (my (pv 3)) (iz ja nH)))))) ib)
     (c_ (iF (ij (Bu 3 (by exact OZ hr)) (uh sO (fO l8).names [6] rfl (iq (gz (pv 5) rfl)) rfl (by decide+kernel) (fun _ _ _ _=>(gr (i:=6) nS.nd rfl (Or.inl rfl))) (fun _ _ _ _=>mx) (fun _ _ _ _=>⟨_,gz (pv 6) rfl,by(try simp only [iu]);rfl⟩)) (pv 4) (iD _)) (e_ (j9 bx O.Jf (by rfl) (lC (iz ja (iz (my (pv 3)) (iz ja nH)))))) ib)
     (e_ (hZ (tD (pv 0) O.gq O.sh mq hr (a_ (pv 1) (a_ (pN O.rE wk hr (a_ (pv 2) (a_ (pv 3) (a_ (gz (pv 5) rfl) (a_ (pv 4) d_))))) d_)))))))))),?_⟩
   refine Qe ?_;intro _ _ _ _ _
   refine⟨_,rfl,d,π.dx,_,rfl,x.hd,(DS _ _ _).1,_,rfl,d,D,W,st,rfl,X,xx,fun hs=>?_,fun hs=>q1 hs⟩
   refine⟨_,rfl,d,π.dx,_,rfl,x.hd,(DS _ _ _).2.1,_,rfl,_,rfl,L2.jK,fun l hl=>?_⟩
   have s1:gg H (upd H l (.lst [V.str f])):=(gg.refl H).new hl
   refine⟨d,l,D,W,y,[f],rfl,X.same s1,b_,by show 1≤1000;decide,fun z hz=>?_,fun h H' s'=>q2 hs (fun g=>h (lq.mpr g)) H' (s1.trans s'),fun h hn H' s'=>q3 hs (lq.mp h).1 (lq.mp h).2 hn H' (s1.trans s'),fun h hn H2 s2=>?_⟩
   · rcases XY.mp hz with z|z
     · rw[z];exact Ff
     · rw[UK.mp z];exact OH
   obtain⟨gy,gf⟩:=lq.mp h
   have qL:=s1.trans s2
   have X2:=X.same qL
   refine⟨_,rfl,d,π.dx,_,rfl,qL _ _ x.hd,(xQ _ _ _).2.2.1,_,rfl,_,rfl,d,D,W,st,f,rfl,X2,xx,sm,I,fun h=>absurd hs h,fun _ p H3 s3 rV sg=>?_⟩
   obtain⟨px,ah,ln,g1,g2,⟨as,g3,g4⟩⟩:=id sg
   have xy:=qL.trans s3
   have hlen:=Paired.length g4
   refine⟨_,rfl,p,px,_,rfl,g1,Jq ah ln,p,_,_,rfl,sg,Jw I st f,aab Ee (by decide),fun r H4 vs s4 sv Ax Ef=>?_⟩
   have wg:=xy.trans s4
   have Mo:=Paired.length Ef
   by_cases hq:D.xG st f=[]
   case neg=>
     have Hr:vs≠[]:=fun z=>hq (by
       have e:(ky (Ah (hU (D.pO st) f)) (D.row st f)).length=0:=by rw[Mo,z];rfl
       exact aaG.mp e)
     refine⟨true,.inl ⟨_,g_.of Ax,by simpa using Hr⟩,lU ?_⟩
     exact⟨_,rfl,by decide+kernel,⟨_,rfl,_,rfl,OH.1,_,rfl,OH.1,⟨_,rfl,by decide+kernel,fun _=>q4 hs gy gf hn hq _ wg⟩⟩⟩
   have Hr:vs=[]:=by
     have e:(ky (Ah (hU (D.pO st) f)) (D.row st f)).length=0:=by rw[show ky (Ah (hU (D.pO st) f)) (D.row st f)=[] from hq];rfl
     rw[Mo] at e
     exact aaG.mp e
   refine⟨false,.inl ⟨_,g_.of Ax,by rw[Hr];rfl⟩,jU ?_⟩
   have Zj:=s4 _ _ g1
   have WA:=s4 _ _ g3
   refine⟨_,rfl,p,A.ic,px,_,_,rfl,Zj,O.j5,O.ix,ll ah ln,ln,rfl,⟨_,g_.of WA⟩,jP (K:=K) (a:=ln) (xs:=as.map V.ref) (by rw[Ro];omega) (fun i ys σ H5=>∃(v6:Option V),σ=[some (.ref d),some (.str st),some (.str y),some (.str f),some (.ref t),some (.ref p),v6]∧H5=H4∧ys=gi (((D.row st f).take i).map (·.tx)))
     ⟨none,rfl,rfl,rfl⟩ (fun i ys σ H5 _ ⟨_,_,e,e2⟩=>by rw[e,e2];exact⟨g_.of WA,by rw[Ro,Ro,aav];omega⟩) ?_ ?_⟩
   · rintro i v ys σ H5 hx ⟨v6,rfl,rfl,rfl⟩
     obtain⟨b,hb,rfl⟩:=j7 hx
     obtain⟨l2,JK,dx,vn,vu,vl,k1,k2,k3,k4⟩:=iC g4 hb
     refine⟨_,rfl,b,A.hG,dx,_,_,rfl,s4 _ _ k1,O.iR,O.jI,zg,_,rfl,rfl,?_⟩
     rw[take_snoc JK,aaq,iW]
     rfl
   · rintro ys σ H5 ⟨v6,rfl,rfl,rfl⟩ o TK
     rw[Ro,hlen,aai]
     have s5:=wg.new (o:=.lst (gi ((D.row st f).map (·.tx)))) TK
     have LI:gg H5 (upd H5 o (.lst (gi ((D.row st f).map (·.tx))))):=(gg.refl H5).new TK
     refine⟨_,rfl,_,⟨o,t,rfl,rfl⟩,FR (g_.of b_) (g_.of (s5 _ _ ht)),_,rfl,?_⟩
     by_cases he:(D.row st f).map (·.tx)=texts
     · rw[VE he]
       refine lU ?_
       exact⟨_,rfl,by decide+kernel,⟨_,rfl,_,rfl,OH.1,_,rfl,OH.1,⟨_,rfl,by decide+kernel,fun _=>q5 hs gy gf hn hq he _ s5⟩⟩⟩
     · rw[aaa he]
       refine jU ?_
       have X5:=X.same s5
       refine⟨_,rfl,d,π.dx,_,rfl,s5 _ _ x.hd,(DS _ _ _).2.2.2.2,_,rfl,_,rfl,_,rfl,_,rfl,p,A.ic,px,_,_,rfl,LI _ _ Zj,O.j5,O.ix,ll ah ln,_,rfl,y,f,ln,t,D.row st f,texts,rfl,⟨as,LI _ _ WA,Paired.kO g4 fun _ _ z=>(z.same s4).same LI⟩,s5 _ _ ht,Ee,Ol,fun pa H6 s6 hpa0 WB=>?_⟩
       have Mu:=s5.trans s6
       obtain⟨cl1,cl2⟩:=uZ (x:=y) (f:=f) (row:=D.row st f) (texts:=texts)
       refine⟨d,pa,D,W,st,_,rfl,X.same Mu,I,sm.many,hs,WB,hn,aab cl1 (aab Ol (by decide)),aab cl2 (aab Ee (by decide)),uY I hs texts,fun H7 X7 s7=>?_⟩
       exact q6 hs gy gf hn hq he H7 X7 fun b o e n=>s7 b o (Mu _ _ e) n
def NS(A:Ad):Sp:=fun vs H Q E=>∃(d:Addr)(D:Dk)(W:Addr→Prop)(s x o:Str),vs=[.ref d,.str s,.str x,.str o]∧ip A H d D W∧Inv D∧tX D.made.length∧jO s∧jO x∧jO o∧
 (s∉D.stores→E (.ref A.iM) none H)∧(s∈D.stores→¬Good x→∀H',gg H H'→E (.ref A.jj) none H')∧(s∈D.stores→Good x→x∈D.names→∀H',gg H H'→E (.ref A.i9) none H')∧
 (s∈D.stores→Good x→x∉D.names→o∉D.held s→∀H',gg H H'→E (.ref A.jy) none H')∧
 (s∈D.stores→Good x→x∉D.names→o∈D.held s→∀H',ip A H' d (D.keep s ⟨x,none,[],[],some o⟩) W→mU W H H'→Q .jx H')
theorem zr{x:Str}:(∀y∈[x],Good y)↔Good x:=⟨fun h=>h x (by simp),fun h y hy=>by rw[UK.mp hy];exact h⟩
theorem Lh(T:Txt mg)(O:Ok K mg A):iw P w K mg base (tw P w) 4 A.wW A.wX ["self","store","patch","other"] (NS A):=by
 have ig:=jW (P:=P) (w:=w) (base:=base) T O
 have jY:=qo (P:=P) (w:=w) (base:=base) T O
 have jJ:=oW (P:=P) (w:=w) (base:=base) T O
 have jX:=oV (P:=P) (w:=w) (base:=base) T O
 have mq:=B7 (P:=P) (w:=w) (base:=base) T O
 refine O.AY.f.CF BK (fun vs H Q E h=>?_) (fun jL A0 outer s H vs Q E hr h=>?_)
 · obtain⟨d,D,W,s,x,o,rfl,_⟩:=h
   rfl
 · obtain⟨d,D,W,st,y,ot,rfl,X,I,jK,xx,Ff,hfo,q1,q2,q3,q4,q5⟩:=h
   obtain⟨π,x⟩:=id X
   refine⟨_,(c_ (hZ (Aa bx (pv 0) O.gq O.iX ig hr (a_ (pv 1) d_)))
     (c_ (hZ (Aa bx (pv 0) O.gq O.lO jY hr (a_ (pv 2) (a_ (iQ d_) d_))))
     (c_ (hZ (Aa bx (pv 0) O.gq O.kY jJ hr (a_ (pv 1) (a_ (pv 3) d_))))
     (e_ (hZ (tD (pv 0) O.gq O.sh mq hr (a_ (pv 1) (a_ (ue O.BS jX (hr.mono (by decide)) (by rfl) O.BU O.lN.b .nil oa (a_ (pv 2) (a_ sZ (a_ (iQ d_) (a_ (iQ d_) (a_ (pv 3) d_)))))) d_)))))))),?_⟩
   refine L0 ?_;intro _ _ _
   refine⟨_,rfl,d,π.dx,_,rfl,x.hd,(DS _ _ _).1,_,rfl,d,D,W,st,rfl,X,xx,fun hs=>?_,fun hs=>q1 hs⟩
   refine⟨_,rfl,d,π.dx,_,rfl,x.hd,(DS _ _ _).2.1,_,rfl,L2.jK,fun l hl=>?_⟩
   have s1:gg H (upd H l (.lst [])):=(gg.refl H).new hl
   refine⟨d,l,D,W,y,[],rfl,X.same s1,b_,by show 0≤1000;decide,fun z hz=>by rw[UK.mp hz];exact Ff,fun h H' s'=>q2 hs (fun g=>h (zr.mpr g)) H' (s1.trans s'),fun h hn H' s'=>q3 hs (zr.mp h) hn H' (s1.trans s'),fun h hn H2 s2=>?_⟩
   have gy:=zr.mp h
   have qL:=s1.trans s2
   refine⟨_,rfl,d,π.dx,_,rfl,qL _ _ x.hd,(DS _ _ _).2.2.1,_,rfl,_,rfl,d,D,W,st,ot,rfl,X.same qL,xx,hfo,hs,fun ho=>?_,fun ho=>q4 hs gy hn ho _ qL⟩
   refine⟨_,rfl,d,π.dx,_,rfl,qL _ _ x.hd,(DS _ _ _).2.2.2.2,_,rfl,_,rfl,L2.jK,fun a ha=>⟨L2.jK,fun b hb=>⟨_,rfl,?_⟩⟩⟩
   have s3:=qL.new (o:=.lst []) ha
   have s4:=s3.new (o:=.lst []) hb
   intro o dx no OC Wh
   refine⟨o,dx,_,_,_,_,_,rfl,b_,fun H5 r6 r7=>⟨rfl,?_⟩⟩
   have s5:gg (upd (upd H2 a (.lst [])) b (.lst [])) H5:=fun c u ec=>by
     rw[r6 c (gc ec no),de (gc ec no),de (gc ec OC)]
     exact ec
   have HC:=s4.trans s5
   have pt:n5 A H5 o ⟨y,none,[],[],some ot⟩:=⟨dx,_,a,b,.str ot,r7,rfl,⟨[],s5 _ _ (iE hb b_),.nil⟩,⟨[],s5 _ _ b_,.nil⟩,rfl⟩
   refine⟨d,o,D,W,st,_,rfl,X.same HC,I,jK,hs,pt,hn,aaE _,aaE _,fun z hz=>?_,fun H7 X7 s7=>?_⟩
   · have:z=ot:=by simpa[iN,named] using hz
     rw[this];exact(I.lS st hs ot ho).1
   · exact q5 hs gy hn ho H7 X7 fun b o e n=>s7 b o (HC _ _ e) n
def QM(A:Ad):Sp:=fun vs H Q E=>∃(d t:Addr)(D:Dk)(W:Addr→Prop)(s x f:Str)(ps:List Int),vs=[.ref d,.str s,.str x,.str f,.ref t]∧ip A H d D W∧Inv D∧Small D.made∧jO s∧jO x∧jO f∧H t=some (.lst (ps.map V.int))∧ps.length≤1000∧(∀p∈ps,p.natAbs.log2<1920)∧
 (s∉D.stores→E (.ref A.iM) none H)∧
 (s∈D.stores→¬(Good x∧Good f)→∀H',gg H H'→E (.ref A.jj) none H')∧
 (s∈D.stores→Good x→Good f→x∈D.names→∀H',gg H H'→E (.ref A.i9) none H')∧
 (s∈D.stores→Good x→Good f→x∉D.names→¬L8 (D.row s f).length 0 ps→∀H',gg H H'→E (.ref A.lL) none H')∧
 (s∈D.stores→Good x→Good f→x∉D.names→ps=[]→∀H',gg H H'→E (.ref A.qi) none H')∧
 (s∈D.stores→Good x→Good f→x∉D.names→L8 (D.row s f).length 0 ps→ps≠[]→∀H',ip A H' d (D.keep s ⟨x,some f,[],ps.filterMap fun p=>((D.row s f)[p.toNat]?).map (·.nm),none⟩) W→mU W H H'→Q .jx H')
theorem FT{n:Int}:∀{l:Int} {ps:List Int},0≤l→L8 n l ps→∀p∈ps,0≤p∧p<n
 | _,[],_,_,p,hp=>by cases hp
 | l,q::r,h0,h,p,hp=>by
   obtain⟨⟨h1,h2⟩,h3⟩:=h
   rcases XY.mp hp with rfl|hp
   · exact⟨by omega,h2⟩
   · exact FT (by omega) h3 p hp
theorem NT(T:Txt mg)(O:Ok K mg A):iw P w K mg base (tw P w) 6 A.za A.zb ["self","store","patch","file","places"] (QM A):=by
 have ig:=jW (P:=P) (w:=w) (base:=base) T O
 have jY:=qo (P:=P) (w:=w) (base:=base) T O
 have jl:=oK (P:=P) (w:=w) (base:=base) T O
 have zy:=xR (P:=P) (w:=w) (base:=base) T O
 have jX:=oV (P:=P) (w:=w) (base:=base) T O
 have mq:=B7 (P:=P) (w:=w) (base:=base) T O
 refine O.DC.f.CF q9 (fun vs H Q E h=>?_) (fun jL A0 outer s H vs Q E hr h=>?_)
 · obtain⟨d,t,D,W,s,x,f,ps,rfl,_⟩:=h
   rfl
 · obtain⟨d,t,D,W,st,y,f,ps,rfl,X,I,sm,xx,Ff,OH,ht,Ol,OG,q1,q2,q3,q4,q5,q6⟩:=h
   obtain⟨π,x⟩:=id X
   have sz:sizeLine=16777216:=aat
   have Ee:(D.row st f).length≤4000:=aab (I.uq st f) sm.iH
   refine⟨_,(c_ (hZ (Aa bx (pv 0) O.gq O.iX ig hr (a_ (pv 1) d_)))
     (c_ (hZ (Aa bx (pv 0) O.gq O.lO jY hr (a_ (pv 2) (a_ (iQ (a_ (pv 3) d_)) d_))))
     (c_ (gs (i:=5) q9.nd rfl (Or.inr rfl) (gz (Aa bx (pv 0) O.gq O.kT jl hr (a_ (pv 1) (a_ (pv 3) d_))) rfl))
     (c_ (hZ (US bx O.uQ zy hr (a_ (pv 4) (a_ (gA gm (by rfl) T.jw aan (a_ (pv 5) d_)) d_))))
     (c_ (iF (nB (uc (pv 4) (fun _=>rfl))) (e_ (j9 bx O.Jf (by rfl) ja)) ib)
     (e_ (hZ (tD (pv 0) O.gq O.sh mq hr (a_ (pv 1) (a_ (ue O.BS jX (hr.mono (by decide)) (by rfl) O.BU O.lN.b .nil oa (a_ (pv 2) (a_ (pv 3) (a_ (iQ d_) (a_ (uh y0 (fO qb).names [6] rfl (iq (pv 4)) rfl (by decide+kernel) (fun _ _ _ _=>(gr (i:=6) q9.nd rfl (Or.inl rfl))) (fun _ _ _ _=>mx) (fun _ _ _ _=>⟨_,gz (iy hX (pv 5) (pv 6) (fun _ _=>rfl)) rfl,by(try simp only [iu]);rfl⟩)) (a_ sZ d_)))))) d_)))))))))),?_⟩
   refine Qe ?_;intro _ _ _ _ _
   refine⟨_,rfl,d,π.dx,_,rfl,x.hd,(DS _ _ _).1,_,rfl,d,D,W,st,rfl,X,xx,fun hs=>?_,fun hs=>q1 hs⟩
   refine⟨_,rfl,d,π.dx,_,rfl,x.hd,(DS _ _ _).2.1,_,rfl,_,rfl,L2.jK,fun l hl=>?_⟩
   have s1:gg H (upd H l (.lst [V.str f])):=(gg.refl H).new hl
   refine⟨d,l,D,W,y,[f],rfl,X.same s1,b_,by show 1≤1000;decide,fun z hz=>?_,fun h H' s'=>q2 hs (fun g=>h (lq.mpr g)) H' (s1.trans s'),fun h hn H' s'=>q3 hs (lq.mp h).1 (lq.mp h).2 hn H' (s1.trans s'),fun h hn H2 s2=>?_⟩
   · rcases XY.mp hz with z|z
     · rw[z];exact Ff
     · rw[UK.mp z];exact OH
   obtain⟨gy,gf⟩:=lq.mp h
   have qL:=s1.trans s2
   have X2:=X.same qL
   refine⟨_,rfl,d,π.dx,_,rfl,qL _ _ x.hd,(xQ _ _ _).2.2.1,_,rfl,_,rfl,d,D,W,st,f,rfl,X2,xx,sm,I,fun h=>absurd hs h,fun _ p H3 s3 rV ⟨px,ah,ln,g1,g2,⟨as,g3,g4⟩⟩=>?_⟩
   have xy:=qL.trans s3
   have hlen:=Paired.length g4
   have el:((as.map V.ref).length:Int)=((D.row st f).length:Int):=by rw[Ro,hlen]
   refine⟨p,A.ic,px,_,_,rfl,g1,O.j5,O.ix,ll ah ln,?_⟩
   refine⟨_,rfl,_,rfl,ln,_,rfl,.inl (g_.of g3),?_⟩
   rw[el]
   refine⟨t,ps,_,rfl,xy _ _ ht,OG,fun ok=>?_,fun nok=>q4 hs gy gf hn nok _ xy⟩
   by_cases TU:ps=[]
   · refine⟨_,rfl,false,.inl ⟨_,g_.of (xy _ _ ht),by rw[TU];rfl⟩,?_⟩
     exact q5 hs gy gf hn TU _ xy
   · refine⟨_,rfl,true,.inl ⟨_,g_.of (xy _ _ ht),by simpa using TU⟩,?_⟩
     refine jU ?_
     refine⟨_,rfl,d,π.dx,_,rfl,xy _ _ x.hd,(DS _ _ _).2.2.2.2,_,rfl,_,rfl,_,rfl,L2.jK,fun a ha=>?_⟩
     have s4:=xy.new (o:=.lst []) ha
     have OI:gg H3 (upd H3 a (.lst [])):=(gg.refl H3).new ha
     have TN:(upd H3 a (.lst [])) a=some (.lst []):=b_
     generalize upd H3 a (.lst [])=H4 at s4 OI TN
     refine⟨_,rfl,t,rfl,⟨_,g_.of (s4 _ _ ht)⟩,jP (K:=K) (a:=t) (xs:=ps.map V.int) (by rw[Ro];omega) (fun i ys σ H5=>∃(v6:Option V),σ=[some (.ref d),some (.str st),some (.str y),some (.str f),some (.ref t),some (.ref ln),v6]∧H5=H4∧ys.length≤i∧Paired (lr H3) ys ((ps.take i).filterMap fun p=>((D.row st f)[p.toNat]?).map (·.nm)))
       ⟨none,rfl,rfl,UU _,.nil⟩ (fun i ys σ H5 _ ⟨_,_,e,e2,_⟩=>by rw[e];exact⟨g_.of (s4 _ _ ht),e2⟩) ?_ ?_⟩
     · rintro i v ys σ H5 hx ⟨v6,rfl,rfl,e2,e3⟩
       rw[aah] at hx
       obtain⟨pl,pM,rfl⟩:=aaC.mp hx
       obtain⟨b1,b2⟩:=FT (by decide) ok pl (UT pM)
       have lu:pl.toNat<(D.row st f).length:=by omega
       have D5:(D.row st f)[pl.toNat]?=some (D.row st f)[pl.toNat]:=UN lu
       obtain⟨b,hb,dx,vn,vu,vl,k1,⟨nt,rfl,k2⟩,k3,k4⟩:=zl g4 D5
       refine⟨_,rfl,_,rfl,ln,_,_,_,rfl,rfl,g_.of (OI _ _ g3),iA (j:=pl.toNat) (by omega) hb,b,A.hG,dx,_,_,rfl,OI _ _ k1,O.iR,O.hE,i5,?_⟩
       refine⟨_,rfl,rfl,L3,?_⟩
       rw[take_snoc pM,abp,abd,D5]
       exact iG e3 ⟨nt,rfl,k2⟩
     · rintro ys σ H5 ⟨v6,rfl,rfl,e2,e3⟩ c hc
       rw[Ro,aai] at e3
       have s5:=s4.new (o:=.lst ys) hc
       intro o dx no OC Wh
       refine⟨o,dx,_,_,_,_,_,rfl,b_,fun H6 r6 r7=>⟨rfl,?_⟩⟩
       have s6:gg (upd H5 c (.lst ys)) H6:=fun b u ec=>by
         rw[r6 b (gc ec no),de (gc ec no),de (gc ec OC)]
         exact ec
       have Mu:=s5.trans s6
       have s36:gg H3 H6:=(OI.new hc).trans s6
       have pt:n5 A H6 o ⟨y,some f,[],ps.filterMap fun p=>((D.row st f)[p.toNat]?).map (·.nm),none⟩:=⟨dx,_,a,c,.jx,r7,rfl,⟨[],s6 _ _ (iE hc TN),.nil⟩,⟨ys,s6 _ _ b_,Paired.kO e3 fun _ _ z=>z.same s36⟩,rfl⟩
       have Mi:(ps.filterMap fun p=>((D.row st f)[p.toNat]?).map (·.nm)).length≤4000:=aab (List.length_filterMap_le _ _) (by omega)
       refine⟨d,o,D,W,st,_,rfl,X.same Mu,I,sm.many,hs,pt,hn,aaE _,Mi,fun z hz=>?_,fun H7 X7 s7=>q6 hs gy gf hn ok TU H7 X7 fun b o e n=>s7 b o (Mu _ _ e) n⟩
       unfold iN at hz
       rcases XW.mp hz with hz|hz
       · obtain⟨m,hm,rfl⟩:=aaA.mp hz
         have hm:=(aao.mp hm).1
         have hm:m∈(ps.filterMap fun p=>((D.row st f)[p.toNat]?).map (·.nm)):=by simpa[named] using hm
         obtain⟨pl,_,pM⟩:=abI.mp hm
         obtain⟨l',Ho,rfl⟩:=aaC.mp pM
         obtain⟨q,h1,_,h3⟩:=I.uo (UT Ho)
         have hq:=(Inv.l7.mp h1).1
         rw[qT (I.GW q hq) (aac h3)]
         exact aac hq
       · cases hz
end
def cellAt(ns:List Int)(k:Int):Int:=(ns[k.toNat]?).getD 0
def B9(i:Int):Str:=⟨#[(lT.cps[(i%36).toNat]?).getD 0]⟩
def kE(cell k:Int):Nat→Str
 | 0=>Str.ofString ""
 | j+1=>kE cell k j++(if(j:Int)=cell/12%(1+cell%12) then B9 (k+cell/144) else B9 (cell/144+5*(j:Int)+cell/5184%2*k*7))
def nameOf(cell k:Int):Str:=kE cell k (1+cell%12).toNat
theorem B_:lT.length=36:=by decide+kernel
theorem Jy:lT.cps.size=36:=B_
theorem Ca(a b:Str):(a++b).cps.toList=a.cps.toList++b.cps.toList:=Array.toList_append
theorem FU(a b:Str):(a++b).length=a.length+b.length:=Array.size_append
theorem yf(i:Int):∃c,CV lT.cps.toList (i%36)=some c∧B9 i=⟨#[c]⟩∧c∈lT.cps.toList:=by
 have b:=mod_lt i 36 (by decide)
 obtain⟨c,e,ev⟩:=o7 (xs:=lT.cps.toList) b.1 (by rw[aa0,Jy];exact b.2)
 rw[aaZ] at ev
 exact⟨c,e,by unfold B9;rw[ev];rfl,UT (i:=(i%36).toNat) (by rw[aaZ];exact ev)⟩
theorem yg(cell k:Int):∀j,(kE cell k j).length=j∧∀c∈(kE cell k j).cps.toList,c∈lT.cps.toList
 | 0=>⟨by unfold kE;decide+kernel,fun c hc=>by
     have:(kE cell k 0).cps.toList=[]:=by unfold kE;decide+kernel
     rw[this] at hc;cases hc⟩
 | j+1=>by
   have ⟨h1,h2⟩:=yg cell k j
   unfold kE
   obtain⟨c1,_,e1,m1⟩:=yf (k+cell/144)
   obtain⟨c2,_,e2,m2⟩:=yf (cell/144+5*(j:Int)+cell/5184%2*k*7)
   split
   · rw[e1,FU,Ca]
     refine⟨by rw[h1];rfl,fun c hc=>?_⟩
     rcases XW.mp hc with hc|hc
     · exact h2 c hc
     · rw[UK.mp hc];exact m1
   · rw[e2,FU,Ca]
     refine⟨by rw[h1];rfl,fun c hc=>?_⟩
     rcases XW.mp hc with hc|hc
     · exact h2 c hc
     · rw[UK.mp hc];exact m2
theorem nz(cell k:Int):Good (nameOf cell k):=by
 obtain⟨h1,h2⟩:=yg cell k (1+cell%12).toNat
 have b:=mod_lt cell 12 (by decide)
 exact⟨by unfold nameOf;rw[h1];omega,by unfold nameOf;rw[h1];omega,h2⟩
theorem Li{x:Str}(h:x.length≤1000)(hc:∀c∈x.cps.toList,c<1114112):jO x:=by
 refine⟨?_,h⟩
 have z:=PySem.StrLaws.reprText_len x fun c Be=>Nat.lt_trans (hc c Be) (by decide)
 omega
theorem Jz:∀c∈lT.cps.toList,c<1114112:=by decide+kernel
theorem Good.vZ{x:Str}(g:Good x):jO x:=Li (by have:=g.2.1;omega) fun c hc=>Jz c (g.2.2 c hc)
def FV(i:Int):Nat:=(lT.cps[(i%36).toNat]?).getD 0
theorem G9{i j:Int}(h:FV i=FV j):i%36=j%36:=by
 have key:∀a<36,∀b<36,(lT.cps[a]?).getD 0=(lT.cps[b]?).getD 0→a=b:=by decide+kernel
 have b1:=mod_lt i 36 (by decide)
 have b2:=mod_lt j 36 (by decide)
 have:=key (i%36).toNat (by omega) (j%36).toNat (by omega) h
 omega
theorem Cb(cell k:Int):∀n j,j<n→(kE cell k n).cps.toList[j]?=some (if(j:Int)=cell/12%(1+cell%12) then FV (k+cell/144) else FV (cell/144+5*(j:Int)+cell/5184%2*k*7))
 | 0,j,h=>by omega
 | n+1,j,h=>by
   have hl:(kE cell k n).cps.toList.length=n:=by rw[aa0];exact(yg cell k n).1
   rw[kE,Ca]
   by_cases e:j=n
   · subst e
     rw[aa3 (by omega),hl,Nat.sub_self]
     split<;>rfl
   · rw[abr (by omega)]
     exact Cb cell k n j (by omega)
theorem zt{c i j:Int}(h0:0≤i)(h1:i<36)(h2:0≤j)(h3:j<36)(h:nameOf c i=nameOf c j):i=j:=by
 have b:=mod_lt c 12 (by decide)
 have b2:=mod_lt (c/12) (1+c%12) (by omega)
 have e1:=Cb c i (1+c%12).toNat (c/12%(1+c%12)).toNat (by omega)
 have e2:=Cb c j (1+c%12).toNat (c/12%(1+c%12)).toNat (by omega)
 have h:kE c i (1+c%12).toNat=kE c j (1+c%12).toNat:=h
 rw[h] at e1
 rw[e1] at e2
 rw[aar (by omega),aar (by omega)] at e2
 have:=G9 (aau e2)
 omega
section
variable{P:Program}{w:World}{K:PySem.W.Frag}{mg:Str→Option Value}{base:Heap}{A:Ad}
def NU(K:PySem.W.Frag):Sp:=fun vs H Q _=>∃(a:Addr)(ns:List Int)(k:Int),vs=[.ref a,.int k]∧g_ K H a (ns.map V.int)∧0≤k∧Q (.int (cellAt ns k)) H
theorem FW(T:Txt mg)(O:Ok K mg A):iw P w K mg base m_ 1 A.rl A.rm ["script","k"] (NU K):=by
 refine O.js.f.ok xN (fun vs H Q E h=>?_) (fun jL A outer s H vs Q E hr h=>?_)
 · obtain⟨a,ns,k,rfl,_⟩:=h
   rfl
 · obtain⟨a,ns,k,rfl,ha,h0,q⟩:=h
   refine⟨_,(c_ (iF (ij Fu (pv 1) (gA gm (by rfl) T.jw aan (a_ (pv 0) d_)) (iD _)) (e_ (h_ (iy hX (pv 0) (pv 1) (fun _ _=>rfl)))) ib)
     (e_ (h_ f_))),?_⟩
   refine Hw ?_;intro _
   refine⟨_,rfl,_,rfl,a,_,rfl,.inl ha,_,_,rfl,rfl,_,rfl,?_⟩
   refine ku (fun hc=>?_) (fun hc=>?_)
   · have hc:k<((ns.map V.int).length:Int):=aam hc
     obtain⟨v,e,ev⟩:=o7 h0 hc
     rw[aah] at ev
     cases en:ns[k.toNat]? with
     | none=>rw[en] at ev;cases ev
     | some z=>
       rw[en] at ev
       cases ev
       unfold cellAt at q
       rw[en] at q
       exact⟨_,rfl,_,rfl,a,_,_,_,rfl,rfl,ha,e,q⟩
   · have hc:¬k<((ns.map V.int).length:Int):=by simpa using hc
     unfold cellAt at q
     rw[Ro] at hc
     rw[List.getElem?_eq_none (by omega)] at q
     exact q
def NV:Sp:=fun vs H Q _=>∃(c k:Int),vs=[.int c,.int k]∧Q (.str (nameOf c k)) H
theorem FX(T:Txt mg)(O:Ok K mg A):iw P w K mg base m_ 1 A.xg A.xh ["cell","k"] NV:=by
 refine O.pJ.f.ok jo (fun vs H Q E h=>?_) (fun jL A outer s H vs Q E hr h=>?_)
 · obtain⟨c,k,rfl,_⟩:=h
   rfl
 · obtain⟨c,k,rfl,q⟩:=h
   refine⟨_,(c_ (gs (i:=2) jo.nd rfl (Or.inl rfl) ja)
     (c_ (gs (i:=3) jo.nd rfl (Or.inl rfl) (gn iP f_ (gn iU (pv 0) f_)))
     (c_ (gs (i:=4) jo.nd rfl (Or.inl rfl) (gn j0 (pv 0) f_))
     (c_ (gs (i:=5) jo.nd rfl (Or.inl rfl) (gn qQ (gn qQ (gn iU (gn j0 (pv 0) f_) f_) (pv 1)) f_))
     (c_ (gs (i:=6) jo.nd rfl (Or.inl rfl) ja)
     (c_ (iL PassesOwn.never rfl (lb rfl T.nj (a_ (pv 3) d_)) (gr (i:=7) jo.nd rfl (Or.inl rfl)) (e_ (iF (ij me (pv 7) (gn iU (gn j0 (pv 0) f_) (pv 3)) (iD _)) (e_ (gs (i:=6) jo.nd rfl (Or.inl rfl) (gn yp (pv 6) (iy Eu (pv 2) (gn iU (gn iP (pv 1) (pv 4)) f_) (fun _ _=>rfl))))) (e_ (gs (i:=6) jo.nd rfl (Or.inl rfl) (gn yp (pv 6) (iy Eu (pv 2) (gn iU (gn iP (gn iP (pv 4) (gn qQ f_ (pv 7))) (pv 5)) f_) (fun _ _=>rfl))))))))
     (e_ (h_ (pv 6))))))))),?_⟩
   refine XX ?_;intro _ _ _ _ _ _
   have b:=mod_lt c 12 (by decide)
   have b2:=mod_lt (c/5184) 2 (by decide)
   refine⟨_,rfl,_,_,rfl,rfl,(by show(0:Int)<12;decide),_,_,rfl,rfl,?_⟩
   refine⟨_,rfl,_,_,rfl,rfl,⟨by decide,by decide⟩,?_⟩
   refine⟨_,rfl,_,_,rfl,rfl,⟨by decide,by decide⟩,_,_,rfl,rfl,(by show(0:Int)<2;decide),_,rfl,_,_,rfl,rfl,.inl ⟨by omega,by omega⟩,_,_,rfl,rfl,.inr ⟨by decide,by decide⟩,?_⟩
   refine⟨_,rfl,_,rfl,by omega,by omega,?_⟩
   refine nv (fun j σ H2=>∃v,σ=[some (.int c),some (.int k),some (.str lT),some (.int (1+c%12)),some (.int (c/144)),some (.int (c/5184%2*k*7)),some (.str (kE c k j)),v]∧H2=H) ⟨none,rfl,rfl⟩ ?_ ?_
   · rintro j σ H2 hj ⟨v,rfl,rfl⟩
     have hlen:=(yg c k j).1
     have hz:(kE c k j).length+1≤sizeLine:=aab (m:=13) (by omega) (by decide)
     refine⟨_,rfl,_,rfl,_,_,rfl,rfl,⟨by decide,by decide⟩,_,rfl,_,_,rfl,rfl,(by show(0:Int)<1+c%12;omega),rfl,_,rfl,?_⟩
     refine ku (fun hc=>?_) (fun hc=>?_)
     · have hc:(0:Int)+(j:Int)=c/12%(1+c%12):=V.int.inj (aam hc)
       obtain⟨cp,e,es,_⟩:=yf (k+c/144)
       refine⟨_,rfl,_,rfl,_,rfl,_,rfl,_,_,rfl,rfl,_,_,rfl,rfl,(by show(0:Int)<36;decide),_,_,cp,rfl,rfl,by rw[B_];decide,e,_,_,rfl,rfl,hz,some (.int (0+(j:Int))),?_,rfl⟩
       rw[kE,aar (by omega),es]
       rfl
     · have hc:¬(0:Int)+(j:Int)=c/12%(1+c%12):=fun z=>hc (VE (aaW V.int z))
       obtain⟨cp,e,es,_⟩:=yf (c/144+5*(j:Int)+c/5184%2*k*7)
       refine⟨_,rfl,_,rfl,_,rfl,_,rfl,_,_,rfl,rfl,.inl ⟨by decide,by decide⟩,_,_,rfl,rfl,_,rfl,_,_,rfl,rfl,_,_,rfl,rfl,(by show(0:Int)<36;decide),_,_,cp,rfl,rfl,by rw[B_];decide,by rw[Int.zero_add];exact e,_,_,rfl,rfl,hz,some (.int (0+(j:Int))),?_,rfl⟩
       rw[kE,aak (by omega),es]
       rfl
   · rintro σ H2 ⟨v,rfl,rfl⟩
     refine⟨_,rfl,?_⟩
     have:(1+c%12-0).toNat=(1+c%12).toNat:=by rw[Int.sub_zero]
     exact q
def NW:Sp:=fun vs H Q _=>∃(c k b:Int),vs=[.int c,.int k,.int b]∧0<b∧0≤k∧k≤1000∧∀x,0≤x→x<b→Q (.int x) H
theorem Lj(T:Txt mg)(O:Ok K mg A):iw P w K mg base m_ 1 A.xc A.xf ["cell","k","bound"] NW:=by
 refine O.AZ.f.ok qh (fun vs H Q E h=>?_) (fun jL A outer s H vs Q E hr h=>?_)
 · obtain⟨c,k,b,rfl,_⟩:=h
   rfl
 · obtain⟨c,k,b,rfl,hb,Mr,R0,q⟩:=h
   refine⟨_,(c_ (gs (i:=3) qh.nd rfl (Or.inl rfl) (gn iU (gn qQ (gn iP (gn iP (gn iU (pv 0) f_) (gn qQ f_ (pv 1))) f_) f_) f_))
     (c_ (gs (i:=3) qh.nd rfl (Or.inl rfl) (gn iU (gn qQ (gn iP (pv 3) (gn qQ f_ (gn iP (pv 1) f_))) f_) f_))
     (e_ (h_ (gn iU (gn j0 (pv 3) f_) (pv 2)))))),?_⟩
   refine Fz ?_;intro _ _
   refine⟨_,rfl,_,_,rfl,rfl,(by show(0:Int)<2147483647;decide),_,rfl,_,_,rfl,rfl,.inl ⟨by decide,by decide⟩,_,_,rfl,rfl,_,_,rfl,rfl,_,_,rfl,rfl,.inr ⟨by decide,by decide⟩,_,_,rfl,rfl,(by show(0:Int)<2147483647;decide),?_⟩
   refine⟨_,rfl,_,rfl,_,_,rfl,rfl,_,_,rfl,rfl,.inl ⟨by decide,by decide⟩,_,_,rfl,rfl,_,_,rfl,rfl,.inr ⟨by decide,by decide⟩,_,_,rfl,rfl,(by show(0:Int)<2147483629;decide),?_⟩
   exact⟨_,rfl,_,_,rfl,rfl,⟨by decide,by decide⟩,_,rfl,_,_,rfl,rfl,hb,q _ (mod_lt _ b hb).1 (mod_lt _ b hb).2⟩
def v_:Str:=Str.ofString " !#$&()*+,-./0123456789:;<=>?@ABCDEFGHIJKLMNOPQRSTUVWXYZ[]^_abcdefghijklmnopqrstuvwxyz{|}~"
theorem su:v_.length=90:=by decide+kernel
def NX:Sp:=fun vs H Q _=>∃(c:Int),vs=[.int c]∧∀x H',gg H H'→Q (.str x) H'
theorem DX:∀(xs:List Str),(∀x∈xs,x.length=1)→(xs.map (·.length)).sum=xs.length
 | [],_=>rfl
 | x::r,h=>by
   rw[aas,List.sum_cons,h x aal,DX r fun y hy=>h y (aaf _ hy),aae]
   omega
theorem Lk(T:Txt mg)(O:Ok K mg A):iw P w K mg base m_ 1 A.xi A.xj ["cell"] NX:=by
 refine O.vT.f.ok lK (fun vs H Q E h=>?_) (fun jL A outer s H vs Q E hr h=>?_)
 · obtain⟨c,rfl,_⟩:=h
   rfl
 · obtain⟨c,rfl,q⟩:=h
   refine⟨_,(c_ (gs (i:=1) lK.nd rfl (Or.inr rfl) ja)
     (c_ (iF (ij me (gn iU (pv 0) f_) f_ (iD _)) (e_ (h_ (iy hX (iQ (a_ ja (a_ ja (a_ ja (a_ ja d_))))) (gn iU (gn j0 (pv 0) f_) f_) (fun _ _=>rfl)))) ib)
     (c_ (gs (i:=2) lK.nd rfl (Or.inl rfl) (gn iU (gn j0 (pv 0) f_) f_))
     (c_ (oQ (iF (ij me (gn iU (gn j0 (pv 0) f_) f_) f_ (iD _)) (e_ (gs (i:=2) lK.nd rfl (Or.inl rfl) f_)) ib))
     (e_ (h_ (qA PySem.F.plainAttrs_str PySem.F.slot_str_join PySem.F.type_str_join KG ja (a_ (uh wK (fO ow).names [3] rfl (lb rfl T.nj (a_ (pv 2) d_)) rfl (by decide+kernel) (fun _ _ _ _=>(gr (i:=3) lK.nd rfl (Or.inl rfl))) (fun _ _ _ _=>mx) (fun _ _ _ _=>⟨_,iy Eu (pv 1) (gn iU (gn iP (gn j0 (pv 0) f_) (gn qQ f_ (pv 3))) (gA uf (by rfl) T.jw aan (a_ (pv 1) d_))) (fun _ _=>rfl),by(try simp only [iu]);rfl⟩)) d_)))))))),?_⟩
   refine Qd ?_;intro _ _ _ _
   refine⟨_,rfl,_,_,rfl,rfl,(by show(0:Int)<3;decide),rfl,_,rfl,?_⟩
   refine ku (fun _=>?_) (fun _=>?_)
   · refine⟨jK,fun l hl=>?_⟩
     refine⟨_,rfl,_,_,rfl,rfl,⟨by decide,by decide⟩,_,_,rfl,rfl,(by show(0:Int)<4;decide),?_⟩
     have b:=mod_lt (c/3) 4 (by decide)
     obtain⟨v,e,ev⟩:=o7 (xs:=[V.str (Str.ofString "a"),V.str (Str.ofString "b"),V.str (Str.ofString ""),V.str (Str.ofString " ")]) b.1 (by simpa using b.2)
     refine⟨l,_,_,v,rfl,rfl,g_.of b_,e,?_⟩
     have hv:∃x,v=V.str x:=by
       have hm:=UT ev
       simp at hm
       rcases hm with rfl|rfl|rfl|rfl<;>exact⟨_,rfl⟩
     obtain⟨x,rfl⟩:=hv
     exact q x _ ((gg.refl H).new hl)
   · refine⟨_,rfl,_,_,rfl,rfl,⟨by decide,by decide⟩,_,_,rfl,rfl,(by show(0:Int)<5;decide),?_⟩
     have b:=mod_lt (c/3) 5 (by decide)
     refine⟨fun σ H2=>∃(z:Int)(v:Option V),σ=[some (.int c),some (.str v_),some (.int z),v]∧H2=H∧0≤z∧z≤80,?_,?_⟩
     · refine⟨_,rfl,_,_,rfl,rfl,⟨by decide,by decide⟩,_,_,rfl,rfl,(by show(0:Int)<9;decide),rfl,_,rfl,?_⟩
       refine ku (fun _=>?_) (fun _=>?_)
       · exact⟨80,_,rfl,rfl,by decide,by decide⟩
       · exact⟨_,_,rfl,rfl,b.1,by omega⟩
     · rintro σ H2 ⟨z,v,rfl,rfl,z0,z1⟩
       refine⟨rfl,_,rfl,_,rfl,by omega,by omega,?_⟩
       refine ui (by have:sizeLine=2 ^ 24:=rfl;omega) (fun m ys σ H3=>∃(v:Option V)(xs:List Str),σ=[some (.int c),some (.str v_),some (.int z),v]∧H3=H2∧ys=gi xs∧xs.length=m∧∀x∈xs,x.length=1)
         ⟨none,[],rfl,rfl,rfl,rfl,fun x hx=>nomatch hx⟩ (fun i ys σ H ⟨_,xs,_,_,e,e2,_⟩=>by rw[e,Ro];omega) ?_ ?_
       · rintro m ys σ H3 hm ⟨v,xs,rfl,rfl,rfl,hx,h1⟩
         refine⟨_,rfl,_,rfl,_,_,rfl,rfl,⟨by decide,by decide⟩,_,rfl,_,_,rfl,rfl,.inl ⟨by decide,by decide⟩,_,_,rfl,rfl,_,rfl,_,rfl,by rw[su];decide,_,_,rfl,rfl,(by show(0:Int)<(v_.length:Int);rw[su];decide),?_⟩
         have b:=mod_lt (c/45+7*(0+(m:Int))) (v_.length:Int) (by rw[su];decide)
         obtain⟨cp,e,_⟩:=o7 (xs:=v_.cps.toList) b.1 (by rw[aa0];exact b.2)
         refine⟨_,_,cp,rfl,rfl,by rw[su];decide,e,?_⟩
         refine⟨_,xs++[⟨#[cp]⟩],rfl,rfl,iW _ _,by rw[VJ,hx];rfl,fun x OJ=>?_⟩
         rcases XW.mp OJ with OJ|OJ
         · exact h1 x OJ
         · rw[UK.mp OJ];rfl
       · rintro ys σ H3 ⟨v,xs,rfl,rfl,rfl,hx,h1⟩ p hp
         refine⟨_,p,xs,rfl,rfl,g_.of b_,?_,?_⟩
         · rw[DX xs h1]
           have:(Str.ofString "").length=0:=by decide+kernel
           rw[this]
           omega
         · exact q _ _ ((gg.refl H3).new hp)
end
theorem u0(l:List Str)(k:Nat):sA (gi l) none (some (k:Int))=gi (l.take k):=by
 unfold sA
 rw[HT.yt,HT.Fx,Nat.sub_zero,List.drop_zero]
 unfold gi
 rw[Ro,←List.map_take]
 congr 1
 by_cases h:k≤l.length
 · rw[Nat.min_eq_left h]
 · rw[Nat.min_eq_right (by omega),abH (UU _),abH (by omega)]
theorem DY(l:List Str)(k:Nat):sA (gi l) (some (k:Int)) none=gi (l.drop k):=by
 unfold sA
 rw[HT.yt,HT.Fx,abH (by rw[List.length_drop];exact UU _)]
 unfold gi
 rw[Ro,←List.map_drop]
 congr 1
 by_cases h:k≤l.length
 · rw[Nat.min_eq_left h]
 · rw[Nat.min_eq_right (by omega),List.drop_of_length_le (UU _),List.drop_of_length_le (by omega)]
theorem wa(l:List Str){z:Int}{k:Nat}(h:z=(k:Int)):sA (gi l) (some z) none=gi (l.drop k):=by rw[h,DY]
structure E7(ts Kh:List Str):Prop where
 ne:ts≠Kh
 len:Kh.length≤ts.length+3
 near:Kh.length≤K01.lcs ts Kh+3
theorem zu{x y s:List Str}(h1:s.Sublist x)(h2:s.Sublist y):s.length≤K01.lcs x y:=(K01.j1 x y).1 s h1 h2
theorem Cc{ts Kh:List Str}(h:ts.length≠Kh.length):ts≠Kh:=fun z=>h (aaW List.length z)
theorem G_(ts:List Str)(k:Nat)(x:Str):E7 ts (ts.take k++[x]++ts.drop k):=by
 have hl:(ts.take k++[x]++ts.drop k).length=ts.length+1:=by simp;omega
 have hs:ts.Sublist (ts.take k++[x]++ts.drop k):=by
   conv=>lhs;rw[←aa8 k ts]
   rw[aaM]
   exact(aaw _).append (aaV _ _)
 have:=zu (aaw ts) hs
 exact⟨Cc (by omega),by omega,by omega⟩
theorem JA(ts:List Str)(k:Nat)(h:k<ts.length):E7 ts (ts.take k++ts.drop (k+1)):=by
 have hl:(ts.take k++ts.drop (k+1)).length=ts.length-1:=by simp;omega
 have hs:(ts.take k++ts.drop (k+1)).Sublist ts:=by
   conv=>rhs;rw[←aa8 k ts]
   refine(aaw _).append ?_
   rw[aaI h]
   exact abc _ _
 have:=zu hs (aaw _)
 exact⟨Cc (by omega),by omega,by omega⟩
theorem E8(ts:List Str)(k:Nat)(x:Str)(h:k<ts.length)(hx:ts[k]≠x):E7 ts (ts.take k++[x]++ts.drop (k+1)):=by
 have hl:(ts.take k++[x]++ts.drop (k+1)).length=ts.length:=by simp;omega
 have hs:(ts.take k++ts.drop (k+1)).Sublist ts:=by
   conv=>rhs;rw[←aa8 k ts]
   refine(aaw _).append ?_
   rw[aaI h]
   exact abc _ _
 have Hx:(ts.take k++ts.drop (k+1)).Sublist (ts.take k++[x]++ts.drop (k+1)):=by
   rw[aaM]
   exact(aaw _).append (aaV _ _)
 have:=zu hs Hx
 have JK:(ts.take k++ts.drop (k+1)).length=ts.length-1:=by simp;omega
 refine⟨fun z=>hx ?_,by omega,by omega⟩
 have e:ts[k]?=(ts.take k++[x]++ts.drop (k+1))[k]?:=by rw[←z]
 rw[aaM,aa3 (by rw[aav];omega),aav,show k-min k ts.length=0 by omega,UN h] at e
 exact aau e
theorem E9(ts:List Str)(k:Nat)(x y z:Str):E7 ts ([x]++(ts.take k++[y]++ts.drop k)++[z]):=by
 have hl:([x]++(ts.take k++[y]++ts.drop k)++[z]).length=ts.length+3:=by simp;omega
 have hs:ts.Sublist ([x]++(ts.take k++[y]++ts.drop k)++[z]):=by
   refine List.Sublist.trans ?_ (List.sublist_append_left _ _)
   refine List.Sublist.trans ?_ (aaV _ _)
   conv=>lhs;rw[←aa8 k ts]
   rw[aaM]
   exact(aaw _).append (aaV _ _)
 have:=zu (aaw ts) hs
 exact⟨Cc (by omega),by omega,by omega⟩
theorem Ha(ts:List Str)(k:Nat)(x y z:Str)(h:k+1<ts.length):E7 ts (ts.take k++[x,y,z]++ts.drop (k+2)):=by
 have hl:(ts.take k++[x,y,z]++ts.drop (k+2)).length=ts.length+1:=by simp;omega
 have hs:(ts.take k++ts.drop (k+2)).Sublist ts:=by
   conv=>rhs;rw[←aa8 k ts]
   refine(aaw _).append ?_
   exact K01.yP (by omega)
 have Hx:(ts.take k++ts.drop (k+2)).Sublist (ts.take k++[x,y,z]++ts.drop (k+2)):=by
   rw[aaM]
   exact(aaw _).append (aaV _ _)
 have:=zu hs Hx
 have JK:(ts.take k++ts.drop (k+2)).length=ts.length-2:=by simp;omega
 exact⟨Cc (by omega),by omega,by omega⟩
section
variable{P:Program}{w:World}{K:PySem.W.Frag}{mg:Str→Option Value}{base:Heap}{A:Ad}
def NY:Sp:=fun vs H Q _=>∃(t:Addr)(ts:List Str)(c:Int),vs=[.ref t,.int c]∧H t=some (.lst (gi ts))∧ts.length≤900∧∀p H' Kh,gg H H'→H' p=some (.lst (gi Kh))→E7 ts Kh→Q (.ref p) H'
theorem Ll(T:Txt mg)(O:Ok K mg A):iw P w K mg base m_ 2 A.xk A.xl ["texts","cell"] NY:=by
 have xA:=Lk (P:=P) (w:=w) (base:=base) T O
 refine O.A1.f.ok j3 (fun vs H Q E h=>?_) (fun jL A outer s H vs Q E hr h=>?_)
 · obtain⟨t,ts,c,rfl,_⟩:=h
   rfl
 · obtain⟨t,ts,c,rfl,ht,hl,q⟩:=h
   have sz:sizeLine=16777216:=aat
   have et:((gi ts).length:Int)=(ts.length:Int):=by simp
   refine⟨_,(c_ (gs (i:=2) j3.nd rfl (Or.inl rfl) (gn iU (gn j0 (pv 1) f_) (gn iP (gA gm (by rfl) T.jw aan (a_ (pv 0) d_)) f_)))
     (c_ (gs (i:=3) j3.nd rfl (Or.inl rfl) (pN O.vT xA hr (a_ (gn j0 (pv 1) f_) d_)))
     (c_ (gs (i:=4) j3.nd rfl (Or.inl rfl) (gn mw (gn mw (ly mX (pv 0) mV (mW (pv 2))) (iQ (a_ (pv 3) d_))) (ly mX (pv 0) (mW (pv 2)) mV)))
     (c_ (gs (i:=5) j3.nd rfl (Or.inl rfl) (gn iU (pv 1) f_))
     (c_ (oQ (iF ((pw_and (ij me (pv 5) f_ (iD _)) (pw_and1 (ij yn (gA gm (by rfl) T.jw aan (a_ (pv 0) d_)) f_ (iD _)))).pt) (c_ (gs (i:=6) j3.nd rfl (Or.inl rfl) (gn iU (pv 2) (gA gm (by rfl) T.jw aan (a_ (pv 0) d_))))
     (e_ (h_ (gn mw (ly mX (pv 0) mV (mW (pv 6))) (ly mX (pv 0) (mW (gn iP (pv 6) f_)) mV))))) ib))
     (c_ (oQ (iF ((pw_and (ij me (pv 5) f_ (iD _)) (pw_and (ij Fu (pv 2) (gA gm (by rfl) T.jw aan (a_ (pv 0) d_)) (iD _)) (pw_and1 (ij Ft (iy hX (pv 0) (pv 2) (fun _ _=>rfl)) (pv 3) (iD _))))).pt) (e_ (h_ (gn mw (gn mw (ly mX (pv 0) mV (mW (pv 2))) (iQ (a_ (pv 3) d_))) (ly mX (pv 0) (mW (gn iP (pv 2) f_)) mV)))) ib))
     (c_ (oQ (iF (ij me (pv 5) f_ (iD _)) (e_ (h_ (gn mw (gn mw (iQ (a_ (pv 3) d_)) (pv 4)) (iQ (a_ (pN O.vT xA hr (a_ (gn j0 (pv 1) f_) d_)) d_))))) ib))
     (c_ (oQ (iF ((pw_and (ij me (pv 5) f_ (iD _)) (pw_and1 (ij Fu (gn iP (pv 2) f_) (gA gm (by rfl) T.jw aan (a_ (pv 0) d_)) (iD _)))).pt) (c_ (gs (i:=7) j3.nd rfl (Or.inl rfl) (iQ (a_ (iy hX (pv 0) (gn iP (pv 2) f_) (fun _ _=>rfl)) (a_ (pv 3) (a_ (iy hX (pv 0) (pv 2) (fun _ _=>rfl)) d_)))))
     (e_ (h_ (gn mw (gn mw (ly mX (pv 0) mV (mW (pv 2))) (pv 7)) (ly mX (pv 0) (mW (gn iP (pv 2) f_)) mV))))) ib))
     (e_ (h_ (pv 4))))))))))),?_⟩
   refine sl9 ?_;intro _ _ _ _ _ _ _ _
   refine⟨_,rfl,_,_,rfl,rfl,⟨by decide,by decide⟩,_,rfl,t,_,rfl,.inl (g_.of ht),_,_,rfl,rfl,_,_,rfl,rfl,(by rw[et];omega),?_⟩
   rw[et]
   have b:=mod_lt (c/5) ((ts.length:Int)+1) (by omega)
   obtain⟨k,hk⟩:∃k:Nat,c/5%((ts.length:Int)+1)=(k:Int):=⟨_,(Int.toNat_of_nonneg b.1).symm⟩
   dsimp only
   rw[hk]
   have Hz:k≤ts.length:=by omega
   refine⟨_,rfl,_,_,rfl,rfl,⟨by decide,by decide⟩,c/30,rfl,fun x H1 s1=>?_⟩
   have YH:=s1 _ _ ht
   refine⟨_,rfl,_,rfl,_,rfl,t,_,rfl,g_.of YH,fun a ha=>?_⟩
   rw[u0]
   have s2:=s1.new (o:=.lst (gi (ts.take k))) ha
   have Zk:(upd H1 a (.lst (gi (ts.take k)))) a=some (.lst (gi (ts.take k))):=b_
   generalize upd H1 a (.lst (gi (ts.take k)))=H2 at s2 Zk
   refine⟨_,rfl,L2.jK,fun b0 Mq=>?_⟩
   have s3:=s2.new (o:=.lst [V.str x]) Mq
   refine⟨a,b0,_,_,rfl,rfl,iE Mq Zk,b_,by simp;omega,fun d hd=>?_⟩
   have s4:=s3.new (o:=.lst (gi (ts.take k)++[V.str x])) hd
   have Zl:(upd (upd H2 b0 (.lst [V.str x])) d (.lst (gi (ts.take k)++[V.str x]))) d=some (.lst (gi (ts.take k++[x]))):=by rw[b_,iW]
   generalize upd (upd H2 b0 (.lst [V.str x])) d (.lst (gi (ts.take k)++[V.str x]))=H4 at s4 Zl
   refine⟨_,rfl,_,rfl,_,rfl,t,_,rfl,g_.of (s4 _ _ ht),fun e he=>?_⟩
   rw[DY]
   have s5:=s4.new (o:=.lst (gi (ts.drop k))) he
   refine⟨d,e,_,_,rfl,rfl,iE he Zl,b_,by simp;omega,fun m hm=>?_⟩
   have s6:=s5.new (o:=.lst (gi (ts.take k++[x])++gi (ts.drop k))) hm
   have WC:(upd (upd H4 e (.lst (gi (ts.drop k)))) m (.lst (gi (ts.take k++[x])++gi (ts.drop k)))) m=some (.lst (gi (ts.take k++[x]++ts.drop k))):=by rw[b_,nI]
   generalize upd (upd H4 e (.lst (gi (ts.drop k)))) m (.lst (gi (ts.take k++[x])++gi (ts.drop k)))=H6 at s6 WC
   have JY:=s6 _ _ ht
   refine⟨_,rfl,_,_,rfl,rfl,(by show(0:Int)<5;decide),?_⟩
   refine⟨fun σ H7=>σ=[some (.ref t),some (.int c),some (.int k),some (.str x),some (.ref m),some (.int (c%5)),none,none]∧H7=H6,?_,?_⟩
   · refine⟨_,rfl,rfl,_,rfl,?_⟩
     refine ku (fun _=>?_) (fun _=>jU ⟨rfl,rfl⟩)
     refine⟨_,rfl,t,_,rfl,.inl (g_.of JY),_,_,rfl,rfl,_,rfl,?_⟩
     refine ku (fun h1=>?_) (fun _=>⟨rfl,rfl⟩)
     have h1:0<ts.length:=by have:=aam h1;rw[et] at this;omega
     refine⟨_,rfl,_,rfl,t,_,rfl,.inl (g_.of JY),_,_,rfl,rfl,(by rw[et];omega),?_⟩
     have b2:=mod_lt (k:Int) (ts.length:Int) (by omega)
     obtain⟨o,ho⟩:∃o:Nat,(k:Int)%(ts.length:Int)=(o:Int):=⟨_,(Int.toNat_of_nonneg b2.1).symm⟩
     rw[et]
     dsimp only
     rw[ho]
     refine⟨_,rfl,_,rfl,_,rfl,t,_,rfl,g_.of JY,fun a ha=>?_⟩
     have s7:=s6.new (o:=.lst (sA (gi ts) none (some (o:Int)))) ha
     refine⟨_,rfl,_,rfl,_,_,rfl,rfl,_,rfl,t,_,rfl,g_.of (s7 _ _ ht),fun e he=>?_⟩
     have s8:=s7.new (o:=.lst (sA (gi ts) (some ((o:Int)+1)) none)) he
     refine⟨a,e,gi (ts.take o),gi (ts.drop (o+1)),rfl,rfl,iE he (by rw[b_,u0]),by rw[b_,wa ts (k:=o+1) (by omega)],by simp;omega,fun p hp=>?_⟩
     refine q p _ _ (s8.new hp) ?_ (JA ts o (by omega))
     rw[b_,nI]
   rintro σ H7 ⟨rfl,rfl⟩
   refine⟨fun σ H8=>σ=[some (.ref t),some (.int c),some (.int k),some (.str x),some (.ref m),some (.int (c%5)),none,none]∧H8=H7,?_,?_⟩
   · refine⟨_,rfl,rfl,_,rfl,?_⟩
     refine ku (fun _=>?_) (fun _=>jU ⟨rfl,rfl⟩)
     refine⟨_,rfl,_,rfl,t,_,rfl,.inl (g_.of JY),_,_,rfl,rfl,_,rfl,?_⟩
     refine ku (fun h1=>?_) (fun _=>jU ⟨rfl,rfl⟩)
     have h1:k<ts.length:=by have:=aam h1;rw[et] at this;omega
     have hx:ts[k]?=some ts[k]:=UN h1
     refine⟨_,rfl,_,rfl,t,_,_,_,rfl,rfl,g_.of JY,iA rfl (oj hx),_,rfl,rfl,_,rfl,?_⟩
     refine ku (fun h2=>?_) (fun _=>⟨rfl,rfl⟩)
     have h2:ts[k]≠x:=fun z=>by rw[z] at h2;simp at h2
     refine⟨_,rfl,_,rfl,_,rfl,t,_,rfl,g_.of JY,fun a ha=>?_⟩
     have s7:=s6.new (o:=.lst (sA (gi ts) none (some (k:Int)))) ha
     rw[u0] at s7 ⊢
     refine⟨_,rfl,L2.jK,fun b0 Mq=>?_⟩
     have s8:=s7.new (o:=.lst [V.str x]) Mq
     refine⟨a,b0,_,_,rfl,rfl,iE Mq b_,b_,by simp;omega,fun d hd=>?_⟩
     have s9:=s8.new (o:=.lst (gi (ts.take k)++[V.str x])) hd
     refine⟨_,rfl,_,rfl,_,_,rfl,rfl,_,rfl,t,_,rfl,g_.of (s9 _ _ ht),fun e he=>?_⟩
     have HB:=s9.new (o:=.lst (sA (gi ts) (some ((k:Int)+1)) none)) he
     refine⟨d,e,_,gi (ts.drop (k+1)),rfl,rfl,iE he b_,by rw[b_,wa ts (k:=k+1) (by omega)],by simp;omega,fun p hp=>?_⟩
     refine q p _ _ (HB.new hp) ?_ (E8 ts k x h1 h2)
     rw[b_,iW,nI]
   rintro σ H8 ⟨rfl,rfl⟩
   refine⟨fun σ H9=>σ=[some (.ref t),some (.int c),some (.int k),some (.str x),some (.ref m),some (.int (c%5)),none,none]∧H9=H8,?_,?_⟩
   · refine⟨_,rfl,rfl,_,rfl,?_⟩
     refine ku (fun _=>?_) (fun _=>⟨rfl,rfl⟩)
     refine⟨_,rfl,L2.jK,fun a ha=>?_⟩
     have s7:=s6.new (o:=.lst [V.str x]) ha
     refine⟨_,rfl,a,m,_,_,rfl,rfl,b_,iE ha WC,by simp;omega,fun b0 Mq=>?_⟩
     have s8:=s7.new (o:=.lst ([V.str x]++gi (ts.take k++[x]++ts.drop k))) Mq
     refine⟨_,rfl,_,_,rfl,rfl,⟨by decide,by decide⟩,c/60,rfl,fun y H9 s9=>⟨L2.jK,fun d hd=>?_⟩⟩
     have HB:=(s8.trans s9).new (o:=.lst [V.str y]) hd
     refine⟨b0,d,_,_,rfl,rfl,iE hd (s9 _ _ b_),b_,by simp;omega,fun p hp=>?_⟩
     refine q p _ _ (HB.new hp) ?_ (E9 ts k x x y)
     rw[b_]
     simp[gi]
   rintro σ H9 ⟨rfl,rfl⟩
   refine⟨fun σ Ms=>σ=[some (.ref t),some (.int c),some (.int k),some (.str x),some (.ref m),some (.int (c%5)),none,none]∧Ms=H9,?_,?_⟩
   · refine⟨_,rfl,rfl,_,rfl,?_⟩
     refine ku (fun _=>?_) (fun _=>jU ⟨rfl,rfl⟩)
     refine⟨_,rfl,_,_,rfl,rfl,_,rfl,t,_,rfl,.inl (g_.of JY),_,_,rfl,rfl,_,rfl,?_⟩
     refine ku (fun h1=>?_) (fun _=>⟨rfl,rfl⟩)
     have h1:k+1<ts.length:=by have:=aam h1;rw[et] at this;omega
     have hx:ts[k]?=some ts[k]:=UN (by omega)
     have hy:ts[k+1]?=some ts[k+1]:=UN h1
     refine⟨_,rfl,_,rfl,_,_,rfl,rfl,t,_,_,_,rfl,rfl,g_.of JY,iA (j:=k+1) (by omega) (oj hy),_,rfl,_,rfl,_,rfl,t,_,_,_,rfl,rfl,g_.of JY,iA rfl (oj hx),L2.jK,fun u hu=>?_⟩
     have s7:=s6.new (o:=.lst [V.str ts[k+1],V.str x,V.str ts[k]]) hu
     have Zm:(upd H9 u (.lst [V.str ts[k+1],V.str x,V.str ts[k]])) u=some (.lst (gi [ts[k+1],x,ts[k]])):=b_
     generalize upd H9 u (.lst [V.str ts[k+1],V.str x,V.str ts[k]])=Sd at s7 Zm
     refine⟨_,rfl,_,rfl,_,rfl,t,_,rfl,g_.of (s7 _ _ ht),fun a ha=>?_⟩
     rw[u0]
     have s8:=s7.new (o:=.lst (gi (ts.take k))) ha
     refine⟨_,rfl,a,u,_,_,rfl,rfl,b_,iE ha Zm,by simp;omega,fun d hd=>?_⟩
     have s9:=s8.new (o:=.lst (gi (ts.take k)++gi [ts[k+1],x,ts[k]])) hd
     refine⟨_,rfl,_,rfl,_,_,rfl,rfl,_,rfl,t,_,rfl,g_.of (s9 _ _ ht),fun e he=>?_⟩
     have HB:=s9.new (o:=.lst (sA (gi ts) (some ((k:Int)+2)) none)) he
     refine⟨d,e,_,gi (ts.drop (k+2)),rfl,rfl,iE he b_,by rw[b_,wa ts (k:=k+2) (by omega)],by simp;omega,fun p hp=>?_⟩
     refine q p _ _ (HB.new hp) ?_ (Ha ts k ts[k+1] x ts[k] h1)
     rw[b_,nI,nI]
   rintro σ Ms ⟨rfl,rfl⟩
   exact⟨_,rfl,q m _ _ s6 WC (G_ ts k x)⟩
end
structure Sz(k:Nat)(D:Dk):Prop where
 many:D.made.length≤k
 iH:(D.made.flatMap (·.iH)).length≤3*k
 j2:(D.made.flatMap (·.j2)).length≤3*(k*k)
theorem FY(k:Nat):(k+1)*(k+1)=k*k+2*k+1:=by simp only [Nat.mul_add,Nat.add_mul];omega
theorem Sz.up{k:Nat}{D:Dk}(z:Sz k D):Sz (k+1) D:=⟨Nat.le_succ_of_le z.many,by have:=z.iH;omega,by have:=z.j2;have:=FY k;omega⟩
theorem Sz.keep{k:Nat}{D:Dk}(z:Sz k D)(s:Str){p:Pt}(hp:p.iH.length≤3)(hc:p.j2.length≤3*k+3):Sz (k+1) (D.keep s p):=by
 refine⟨?_,?_,?_⟩
 · show(D.made++[p]).length≤_
   rw[VJ];have:=z.many;show _+1≤_;omega
 · show((D.made++[p]).flatMap (·.iH)).length≤_
   rw[abl,VJ,aaz,abh,aaF];have:=z.iH;omega
 · show((D.made++[p]).flatMap (·.j2)).length≤_
   rw[abl,VJ,aaz,abh,aaF];have:=z.j2;have:=FY k;omega
theorem Sz.small{k:Nat}{D:Dk}(z:Sz k D)(h:k≤36):Small D.made:=by
 have h2:k*k≤36*36:=Nat.mul_le_mul h h
 exact⟨aab z.many (by omega),aab z.iH (by omega),aab z.j2 (by omega)⟩
theorem Sz.row{k:Nat}{D:Dk}(z:Sz k D)(I:Inv D)(s f:Str):(D.row s f).length≤3*k:=aab (I.uq s f) z.iH
theorem tP(D:Dk)(s:Str)(p:Pt):(D.keep s p).names=D.names++[p.nm]:=by
 show(D.made++[p]).map (·.nm)=_
 rw[aaq];rfl
theorem Hb{x f:Str}{row:List Ln}{texts:List Str}(e:E7 (row.map (·.tx)) texts):(mj x f row texts).iH.length≤3:=by
 have rise:=r_ (row.map (·.tx)) texts
 rw[Ro] at rise
 have h:=FF rise x
 rw[K01.wD] at h
 have:=e.near
 show(kA x texts _).length≤3
 omega
theorem pick{xs:List Str}{i:Int}(h0:0≤i)(h:i<(xs.length:Int)):∃x,CV (gi xs) i=some (V.str x)∧x∈xs:=by
 obtain⟨v,e,ev⟩:=o7 (xs:=gi xs) h0 (by simpa using h)
 obtain⟨x,hx,rfl⟩:=jQ ev
 exact⟨x,e,UT hx⟩
section
variable{P:Program}{w:World}{K:PySem.W.Frag}{mg:Str→Option Value}{base:Heap}{A:Ad}
def NZ(A:Ad):Sp:=fun vs H Q _=>∃(d ss fs:Addr)(D:Dk)(W:Addr→Prop)(k:Nat)(stores files:List Str)(c:Int)(x:Str)(b:Bool),vs=[.ref d,.ref ss,.ref fs,.int c,.str x,.bl b]∧ip A H d D W∧Inv D∧Sz k D∧k<36∧
 H ss=some (.lst (gi stores))∧stores≠[]∧stores.length≤1000∧(∀s∈stores,s∈D.stores∧jO s)∧H fs=some (.lst (gi files))∧files≠[]∧files.length≤1000∧(∀f∈files,Good f)∧Good x∧x∉D.names∧(∀z∈D.names,jO z)∧
 ∀H' D',ip A H' d D' W→mU W H H'→Inv D'→Sz (k+1) D'→D'.stores=D.stores→(D'.names=D.names∨D'.names=D.names++[x])→Q .jx H'
theorem Lm(T:Txt mg)(O:Ok K mg A):iw P w K mg base m_ 7 A.xm A.xn ["desk","stores","files","cell","name","backs"] (NZ A):=by
 have nZ:=(E4 (P:=P) (w:=w) (base:=base) T O).CG
 have jk:=(E3 (P:=P) (w:=w) (base:=base) T O).CG
 have D9:=(Lh (P:=P) (w:=w) (base:=base) T O).CG
 have mr:=(B8 (P:=P) (w:=w) (base:=base) T O).CG
 have oN:=(FQ (P:=P) (w:=w) (base:=base) T O).CG
 have j_:=(rP (P:=P) (w:=w) (base:=base) T O).CG
 have Ay:=(G8 (P:=P) (w:=w) (base:=base) T O).CG
 have Fh:=(NT (P:=P) (w:=w) (base:=base) T O).CG
 have D_:=Ll (P:=P) (w:=w) (base:=base) T O
 refine O.A2.f.ok jq (fun vs H Q E h=>?_) (fun jL A0 outer s H vs Q E hr h=>?_)
 · obtain⟨d,ss,fs,D,W,k,stores,files,c,x,b,rfl,_⟩:=h
   rfl
 · obtain⟨d,ss,fs,D,W,k,stores,files,c,x,bk,rfl,X,I,z,hk,OK,hs0,Q9,xS,xx,Zn,Y_,hfg,gx,hx,Mb,q⟩:=h
   obtain⟨π,y⟩:=id X
   have sz:sizeLine=16777216:=aat
   have sm:=z.small (by omega)
   have jK:tX D.made.length:=sm.many
   have xV:D.made.length≤4000:=jK
   have es:((gi stores).length:Int)=(stores.length:Int):=by simp
   have ef:((gi files).length:Int)=(files.length:Int):=by simp
   have Vy:0<stores.length:=List.length_pos_iff.mpr hs0
   have hf1:0<files.length:=List.length_pos_iff.mpr Zn
   refine⟨_,(c_ (gs (i:=6) jq.nd rfl (Or.inl rfl) (iy hX (pv 1) (gn iU (pv 3) (gA gm (by rfl) T.jw aan (a_ (pv 1) d_))) (fun _ _=>rfl)))
     (c_ (gs (i:=7) jq.nd rfl (Or.inl rfl) (iy hX (pv 2) (gn iU (gn j0 (pv 3) f_) (gA gm (by rfl) T.jw aan (a_ (pv 2) d_))) (fun _ _=>rfl)))
     (c_ (gs (i:=8) jq.nd rfl (Or.inl rfl) (gn iU (gn j0 (pv 3) f_) f_))
     (c_ (gs (i:=9) jq.nd rfl (Or.inl rfl) (gn j0 (pv 3) f_))
     (c_ (C3 (j:=10) wL (fO ox).names [13] jq.nd rfl rfl rfl (iq (tD (pv 0) O.gq O.uR nZ hr (a_ (pv 6) (a_ (pv 7) d_)))) rfl (by decide+kernel) (fun _ _ _ _=>(gr (i:=13) jq.nd rfl (Or.inl rfl))) (fun _ _ _ _=>mx) (fun _ _ _ _=>⟨_,iy yv (pv 13) f_ (fun _ _=>rfl),by(try simp only [iu]);rfl⟩))
     (e_ (iF (IQ ((pw_and (ij me (pv 8) f_ (iD _)) (pw_and (pR (pv 5)) (pw_and1 (ij yn (gA gm (by rfl) T.jw aan (a_ (tD (pv 0) O.gq O.kC jk hr (a_ (pv 6) d_)) d_)) f_ (iD _))))).pt)) (e_ (hZ (tD (pv 0) O.gq O.AY D9 hr (a_ (pv 6) (a_ (pv 4) (a_ (iy hX (tD (pv 0) O.gq O.kC jk hr (a_ (pv 6) d_)) (gn iU (pv 9) (gA gm (by rfl) T.jw aan (a_ (tD (pv 0) O.gq O.kC jk hr (a_ (pv 6) d_)) d_))) (fun _ _=>rfl)) d_)))))) (e_ (iF (IQ ((pw_and (ij me (pv 8) f_ (iD _)) (pw_and (ij me (gn iU (pv 9) f_) f_ (iD _)) (pw_and1 (ij yn (gA gm (by rfl) T.jw aan (a_ (tD (pv 0) O.gq O.kC jk hr (a_ (pv 6) d_)) d_)) f_ (iD _))))).pt)) (e_ (hZ (tD (pv 0) O.gq O.pI mr hr (a_ (pv 6) (a_ (iy hX (tD (pv 0) O.gq O.kC jk hr (a_ (pv 6) d_)) (qP nE f_) (fun _ _=>rfl)) d_))))) (e_ (iF (ij yn (pv 8) f_ (iD _)) (c_ (gs (i:=11) jq.nd rfl (Or.inl rfl) (iy hX (pv 1) (gn iU (pv 9) (gA gm (by rfl) T.jw aan (a_ (pv 1) d_))) (fun _ _=>rfl)))
     (c_ (gs (i:=12) jq.nd rfl (Or.inl rfl) (tD (pv 0) O.gq O.kC jk hr (a_ (pv 11) d_)))
     (e_ (iF (ij yn (gA gm (by rfl) T.jw aan (a_ (pv 12) d_)) f_ (iD _)) (e_ (hZ (tD (pv 0) O.gq O.se oN hr (a_ (pv 6) (a_ (pv 11) (a_ (iy hX (pv 12) (gn iU (gn j0 (pv 9) f_) (gA gm (by rfl) T.jw aan (a_ (pv 12) d_))) (fun _ _=>rfl)) d_)))))) ib)))) (e_ (iF (ij me (gA gm (by rfl) T.jw aan (a_ (tD (pv 0) O.gq O.l9 j_ hr (a_ (pv 6) (a_ (pv 7) d_))) d_)) f_ (iD _)) (e_ (hZ (tD (pv 0) O.gq O.xu Ay hr (a_ (pv 6) (a_ (pv 4) (a_ (pv 7) (a_ (pN O.A1 D_ hr (a_ (pv 10) (a_ (pv 9) d_))) d_))))))) (e_ (hZ (tD (pv 0) O.gq O.DC Fh hr (a_ (pv 6) (a_ (pv 4) (a_ (pv 7) (a_ (iQ (a_ (gn iU (pv 9) (gA gm (by rfl) T.jw aan (a_ (pv 10) d_))) d_)) d_)))))))))))))))))))),?_⟩
   refine Qe ?_;intro _ _ _ _ _
   have b1:=mod_lt c (stores.length:Int) (by omega)
   obtain⟨st,WD,LF⟩:=pick (xs:=stores) b1.1 b1.2
   have b2:=mod_lt (c/7) (files.length:Int) (by omega)
   obtain⟨f,WE,hf2⟩:=pick (xs:=files) b2.1 b2.2
   obtain⟨Ci,Fi⟩:=xS st LF
   have gf:=hfg f hf2
   refine⟨_,rfl,_,rfl,_,rfl,ss,_,rfl,.inl (g_.of OK),_,_,rfl,rfl,(by rw[es];omega),ss,_,_,_,rfl,rfl,g_.of OK,(by rw[es];exact WD),?_⟩
   refine⟨_,rfl,_,rfl,_,_,rfl,rfl,⟨by decide,by decide⟩,_,rfl,fs,_,rfl,.inl (g_.of xx),_,_,rfl,rfl,(by rw[ef];omega),fs,_,_,_,rfl,rfl,g_.of xx,(by rw[ef];exact WE),?_⟩
   refine⟨_,rfl,_,_,rfl,rfl,⟨by decide,by decide⟩,_,_,rfl,rfl,(by show(0:Int)<6;decide),?_⟩
   refine⟨_,rfl,_,_,rfl,rfl,⟨by decide,by decide⟩,?_⟩
   refine⟨_,rfl,d,π.dx,_,rfl,y.hd,(xQ _ _ _).2.2.2.1,_,rfl,_,rfl,d,D,W,st,f,rfl,X,Fi,sm,I,fun h=>absurd Ci h,fun _ r H1 s1 sv ⟨vs,Ax,Ef⟩=>?_⟩
   have Ee:=z.row I st f
   have Pp:=Paired.length Ef
   refine⟨r,rfl,⟨_,g_.of Ax⟩,jP (K:=K) (a:=r) (xs:=vs) (by omega) (fun i ys σ H4=>∃(Hk:Option V),σ=[some (.ref d),some (.ref ss),some (.ref fs),some (.int c),some (.str x),some (.bl bk),some (.str st),some (.str f),some (.int (c/11%6)),some (.int (c/66)),none,none,none,Hk]∧H4=H1∧ys=gi (((D.row st f).take i).map (·.tx)))
     ⟨none,rfl,rfl,rfl⟩ (fun i ys σ H4 _ ⟨_,_,e,e2⟩=>by rw[e,e2];exact⟨g_.of Ax,by rw[Ro,Ro,aav];omega⟩) ?_ ?_⟩
   · rintro i v ys σ H4 hx ⟨Hk,rfl,rfl,rfl⟩
     obtain⟨ln,xU,t,rfl,ht⟩:=iC Ef hx
     refine⟨_,rfl,t,_,_,_,rfl,rfl,u_.of ht,iA (j:=2) rfl rfl,_,rfl,rfl,?_⟩
     rw[take_snoc xU,aaq,iW]
     rfl
   rintro ys σ H4 ⟨Hk,rfl,rfl,rfl⟩ Se RH
   rw[Pp,aai]
   have s2:=s1.new (o:=.lst (gi ((D.row st f).map (·.tx)))) RH
   have Sf:(upd H4 Se (.lst (gi ((D.row st f).map (·.tx))))) Se=some (.lst (gi ((D.row st f).map (·.tx)))):=b_
   generalize upd H4 Se (.lst (gi ((D.row st f).map (·.tx))))=H2 at s2 Sf
   have X2:=X.same s2
   have JZ:(((D.row st f).map (·.tx)).length:Int)=((D.row st f).length:Int):=by rw[Ro]
   have el:∀l:List Str,((gi l).length:Int)=(l.length:Int):=fun l=>by simp
   have hasB:∀u,(D.has u).length≤D.made.length:=fun u=>by
     rw[Dk.FG,Ro];exact aaB _ _
   have OL:∀u,∀v∈D.has u,v∈D.held u∧v∈D.names:=fun u v hv=>by
     obtain⟨h1,h2⟩:=aao.mp hv
     exact⟨aam h2,h1⟩
   refine⟨fun b H3=>gg H2 H3∧(b=true→D.has st≠[]),?_,?_⟩
   · refine⟨_,rfl,rfl,_,rfl,?_⟩
     refine ku (fun _=>?_) (fun _=>⟨gg.refl _,fun z=>by cases z⟩)
     refine⟨_,rfl,_,rfl,?_⟩
     refine ku (fun _=>?_) (fun _=>⟨gg.refl _,fun z=>by cases z⟩)
     refine⟨_,rfl,d,π.dx,_,rfl,s2 _ _ y.hd,(xQ _ _ _).1,_,rfl,d,D,W,st,rfl,X2,Fi,jK,fun h=>absurd Ci h,fun _ p rV=>?_⟩
     refine⟨p,_,rfl,.inl (g_.of b_),_,_,rfl,rfl,_,rfl,(gg.refl H2).new rV,fun h e=>?_⟩
     rw[e] at h
     exact absurd (aam h) (by decide)
   rintro b H3 ⟨Zo,hb⟩
   have s3:=s2.trans Zo
   have X3:=X.same s3
   cases b with
   | true=>
     have sX:=hb rfl
     have Hj:0<(D.has st).length:=List.length_pos_iff.mpr sX
     refine lU ?_
     refine⟨_,rfl,d,π.dx,_,rfl,s3 _ _ y.hd,(Jt _ _ _).2.2.2.1,_,rfl,_,rfl,_,rfl,d,π.dx,_,rfl,s3 _ _ y.hd,(xQ _ _ _).1,_,rfl,d,D,W,st,rfl,X3,Fi,jK,fun h=>absurd Ci h,fun _ p rV=>?_⟩
     have s4:=s3.new (o:=.lst (gi (D.has st))) rV
     refine⟨_,rfl,_,rfl,d,π.dx,_,rfl,s4 _ _ y.hd,(xQ _ _ _).1,_,rfl,d,D,W,st,rfl,X.same s4,Fi,jK,fun h=>absurd Ci h,fun _ p2 zZ=>?_⟩
     have s5:=s4.new (o:=.lst (gi (D.has st))) zZ
     have b3:=mod_lt (c/66) ((D.has st).length:Int) (by omega)
     obtain⟨o,eo,ho⟩:=pick (xs:=D.has st) b3.1 b3.2
     obtain⟨TV,TX⟩:=OL st o ho
     refine⟨p2,_,rfl,.inl (g_.of b_),_,_,rfl,rfl,(by rw[el];omega),p,_,_,_,rfl,rfl,g_.of (iE zZ b_),(by rw[el];exact eo),?_⟩
     refine⟨d,D,W,st,x,o,rfl,X.same s5,I,jK,Fi,gx.vZ,Mb o TX,fun h=>absurd Ci h,fun _ h=>absurd gx h,fun _ _ h=>absurd h hx,fun _ _ _ h=>absurd TV h,fun _ _ _ _ H' X' s'=>?_⟩
     exact q H' _ X' (fun b o e n=>s' b o (s5 _ _ e) n) (I.back Ci hx TV) (z.keep st (aaE _) (aaE _)) rfl (.inr (tP D st _))
   | false=>
   refine jU ?_
   refine⟨fun b H4=>gg H3 H4∧(b=true→D.has st≠[]),?_,?_⟩
   · refine⟨_,rfl,rfl,_,rfl,?_⟩
     refine ku (fun _=>?_) (fun _=>⟨gg.refl _,fun z=>by cases z⟩)
     refine⟨_,rfl,_,_,rfl,rfl,(by show(0:Int)<4;decide),rfl,_,rfl,?_⟩
     refine ku (fun _=>?_) (fun _=>⟨gg.refl _,fun z=>by cases z⟩)
     refine⟨_,rfl,d,π.dx,_,rfl,s3 _ _ y.hd,(xQ _ _ _).1,_,rfl,d,D,W,st,rfl,X3,Fi,jK,fun h=>absurd Ci h,fun _ p rV=>?_⟩
     refine⟨p,_,rfl,.inl (g_.of b_),_,_,rfl,rfl,_,rfl,(gg.refl H3).new rV,fun h e=>?_⟩
     rw[e] at h
     exact absurd (aam h) (by decide)
   rintro b H4 ⟨OI,hb⟩
   have s4:=s3.trans OI
   have X4:=X.same s4
   cases b with
   | true=>
     have sX:=hb rfl
     obtain⟨zs,la,TY⟩:∃zs la,D.has st=zs++[la]:=⟨_,_,(List.dropLast_concat_getLast sX).symm⟩
     have Tt:=OL st la (by rw[TY];simp)
     refine lU ?_
     refine⟨_,rfl,d,π.dx,_,rfl,s4 _ _ y.hd,(Jt _ _ _).2.2.2.2.2,_,rfl,_,rfl,d,π.dx,_,rfl,s4 _ _ y.hd,(xQ _ _ _).1,_,rfl,d,D,W,st,rfl,X4,Fi,jK,fun h=>absurd Ci h,fun _ p rV=>?_⟩
     have s5:=s4.new (o:=.lst (gi (D.has st))) rV
     have LA:CV (gi (D.has st)) (-1)=some (V.str la):=by rw[TY,←iW];exact yu _ _
     refine⟨_,rfl,p,_,_,_,rfl,rfl,g_.of b_,LA,?_⟩
     refine⟨d,D,W,st,la,rfl,X.same s5,I,jK,Fi,Mb la Tt.2,Mb,fun h=>absurd Ci h,fun _ h=>absurd Tt.1 h,fun _ _ h=>absurd (I.vF Ci TY) h,fun _ _ _ H' X' s'=>?_⟩
     exact q H' _ X' (fun b o e n=>s' b o (s5 _ _ e) n) (I.drop Ci (I.vF Ci TY)) ⟨z.up.many,z.up.iH,z.up.j2⟩ rfl (.inl rfl)
   | false=>
   refine jU ?_
   refine⟨_,rfl,_,_,rfl,rfl,_,rfl,?_⟩
   refine ku (fun _=>?_) (fun _=>?_)
   · have b3:=mod_lt (c/66) (stores.length:Int) (by omega)
     obtain⟨so,Hl,TZ⟩:=pick (xs:=stores) b3.1 b3.2
     obtain⟨Sg,Sh⟩:=xS so TZ
     refine⟨_,rfl,_,rfl,_,rfl,ss,_,rfl,.inl (g_.of (s4 _ _ OK)),_,_,rfl,rfl,(by rw[es];omega),ss,_,_,_,rfl,rfl,g_.of (s4 _ _ OK),(by rw[es];exact Hl),?_⟩
     refine⟨_,rfl,d,π.dx,_,rfl,s4 _ _ y.hd,(xQ _ _ _).1,_,rfl,d,D,W,so,rfl,X4,Sh,jK,fun h=>absurd Sg h,fun _ p rV=>?_⟩
     have s5:=s4.new (o:=.lst (gi (D.has so))) rV
     refine⟨_,rfl,p,_,rfl,.inl (g_.of b_),_,_,rfl,rfl,_,rfl,?_⟩
     refine ku (fun h=>?_) (fun _=>?_)
     · have h:0<(D.has so).length:=by have:=aam h;rw[el] at this;omega
       have b4:=mod_lt (c/66/5) ((D.has so).length:Int) (by omega)
       obtain⟨o,eo,ho⟩:=pick (xs:=D.has so) b4.1 b4.2
       obtain⟨TV,TX⟩:=OL so o ho
       refine⟨_,rfl,d,π.dx,_,rfl,s5 _ _ y.hd,(Jt _ _ _).2.2.2.2.1,_,rfl,_,rfl,_,rfl,_,rfl,_,_,rfl,rfl,⟨by decide,by decide⟩,_,rfl,p,_,rfl,.inl (g_.of b_),_,_,rfl,rfl,(by rw[el];omega),p,_,_,_,rfl,rfl,g_.of b_,(by rw[el];exact eo),?_⟩
       refine⟨d,D,W,st,so,o,rfl,X.same s5,I,jK,Fi,Sh,Mb o TX,fun h=>absurd Ci h,fun _ h=>absurd Sg h,fun _ _ h=>absurd TV h,fun _ _ _ cm H6 H' s6 LC _ X' s'=>?_⟩
       exact q H' _ X' (fun b o e n=>s' b o (by rw[de (gc (s6 _ _ (s5 _ _ e)) LC)];exact s6 _ _ (s5 _ _ e)) n) (I.take Ci TX) ⟨z.up.many,z.up.iH,z.up.j2⟩ rfl (.inl rfl)
     · exact q _ D (X.same s5) (mU.of s5) I z.up rfl (.inl rfl)
   refine⟨_,rfl,d,π.dx,_,rfl,s4 _ _ y.hd,(xQ _ _ _).2.2.2.2.1,_,rfl,_,rfl,d,D,W,st,f,rfl,X4,Fi,sm,I,fun h=>absurd Ci h,fun _ p H5 qs LI rV Mh zZ=>?_⟩
   have s5:=s4.trans LI
   have Mo:=Paired.length zZ
   have Si:=LI _ _ (OI _ _ (Zo _ _ Sf))
   refine⟨p,_,rfl,.inl (g_.of Mh),rfl,_,rfl,?_⟩
   refine ku (fun h=>?_) (fun h=>?_)
   · have hq:D.xG st f=[]:=by
       have:=V.int.inj (aam h)
       rw[←Mo] at this
       exact aaG.mp (by omega)
     refine⟨_,rfl,d,π.dx,_,rfl,s5 _ _ y.hd,(Jt _ _ _).2.1,_,rfl,_,rfl,_,rfl,_,rfl,_,rfl,Se,(D.row st f).map (·.tx),c/66,rfl,Si,by rw[Ro];omega,fun t H6 ts Pm JY ed=>?_⟩
     have s6:=s5.trans Pm
     have Ri:=ed.len
     rw[Ro] at Ri
     refine⟨d,t,D,W,st,x,f,ts,rfl,X.same s6,I,sm,aab z.iH (by omega),Fi,gx.vZ,gf.vZ,JY,by omega,fun h=>absurd Ci h,fun _ h=>absurd ⟨gx,gf⟩ h,fun _ _ _ h=>absurd h hx,fun _ _ _ _ h=>absurd hq h,fun _ _ _ _ _ h=>absurd h ed.ne,fun _ _ _ _ _ _ H' X' s'=>?_⟩
     refine q H' _ X' (fun b o e n=>s' b o (s6 _ _ e) n) (I.record Ci hx hq ts) (z.keep st (Hb ed) (aab uZ.2 (by omega))) rfl (.inr (tP D st _))
   · have hq:D.xG st f≠[]:=fun e=>h (by rw[←Mo,e];rfl)
     have hrpos:0<(D.row st f).length:=by
       rcases Nat.eq_zero_or_pos (D.row st f).length with e|e
       · exfalso
         apply hq
         show ky _ (D.row st f)=[]
         rw[aaG.mp e]
         rfl
       · exact e
     have b3:=mod_lt (c/66) ((D.row st f).length:Int) (by omega)
     refine⟨_,rfl,d,π.dx,_,rfl,s5 _ _ y.hd,(Jt _ _ _).2.2.1,_,rfl,_,rfl,_,rfl,_,rfl,_,rfl,Se,_,rfl,.inl (g_.of Si),_,_,rfl,rfl,(by rw[el,JZ];omega),L2.jK,fun t ht=>?_⟩
     have s6:=s5.new (o:=.lst [V.int (c/66%((gi ((D.row st f).map (·.tx))).length:Int))]) ht
     refine⟨d,t,D,W,st,x,f,[c/66%((gi ((D.row st f).map (·.tx))).length:Int)],rfl,X.same s6,I,sm,Fi,gx.vZ,gf.vZ,b_,by show 1≤1000;decide,fun p hp=>?_,fun h=>absurd Ci h,fun _ h=>absurd ⟨gx,gf⟩ h,fun _ _ _ h=>absurd h hx,fun _ _ _ _ h=>absurd ?_ h,(fun _ _ _ _ h=>by cases h),fun _ _ _ _ ok _ H' X' s'=>?_⟩
     · rw[UK.mp hp,el,JZ]
       refine aba (m:=108) ?_ (by decide)
       exact aab (Nat.log2_le_self _) (by omega)
     · rw[el,JZ]
       exact⟨⟨b3.1,b3.2⟩,trivial⟩
     · refine q H' _ X' (fun b o e n=>s' b o (s6 _ _ e) n) (I.cut Ci hx fun m hm=>?_) (z.keep st (aaE _) (aab (List.length_filterMap_le _ _) (by show 1≤_;omega))) rfl (.inr (tP D st _))
       obtain⟨pl,_,pM⟩:=abI.mp hm
       obtain⟨l',Ho,rfl⟩:=aaC.mp pM
       exact aac (UT Ho)
end
theorem oM{K:PySem.W.Frag}{H H':Hp}{a:Addr}{xs:List V}(h:g_ K H a xs)(s:gg H H'):g_ K H' a xs:=by
 rcases h with(h|⟨u,h⟩)|h
 · exact .inl (.inl (s _ _ h))
 · exact .inl (.inr ⟨u,s _ _ h⟩)
 · exact .inr h
abbrev Bb(ns:List Int)(i:Int):Int:=cellAt ns i%20736
def sy(ns:List Int):List Str:=[nameOf (Bb ns 0) 0,nameOf (Bb ns 0) 1,nameOf (Bb ns 0) 2]
def r9(ns:List Int):List Str:=[nameOf (Bb ns 1) 0,nameOf (Bb ns 1) 1]
theorem Hc(ns:List Int):(sy ns).Nodup:=by
 have h:∀i j:Int,0≤i→i<36→0≤j→j<36→i≠j→nameOf (Bb ns 0) i≠nameOf (Bb ns 0) j:=fun i j a b c d e z=>e (zt a b c d z)
 unfold sy
 simp only [aaK,XY,abE,or_false,not_or,aa6,and_true]
 exact⟨⟨h 0 1 (by decide) (by decide) (by decide) (by decide) (by decide),h 0 2 (by decide) (by decide) (by decide) (by decide) (by decide)⟩,h 1 2 (by decide) (by decide) (by decide) (by decide) (by decide),by simp⟩
theorem u1{ns:List Int}:∀s∈sy ns,Good s:=by
 intro s hs
 unfold sy at hs
 simp only [XY,abE,or_false] at hs
 rcases hs with rfl|rfl|rfl<;>exact nz _ _
theorem JB{ns:List Int}:∀s∈r9 ns,Good s:=by
 intro s hs
 unfold r9 at hs
 simp only [XY,abE,or_false] at hs
 rcases hs with rfl|rfl<;>exact nz _ _
section
variable{P:Program}{w:World}{K:PySem.W.Frag}{mg:Str→Option Value}{base:Heap}{A:Ad}
structure Built(A:Ad)(ns:List Int)(n:Nat)(H H':Hp)(b d ss fs:Addr)(D:Dk)(W:Addr→Prop):Prop where
 same:gg H H'
 fresh:H b=none
 at_:H' b=some (.lst [.ref d,.ref ss,.ref fs])
 st:H' ss=some (.lst (gi (sy ns)))
 fl:H' fs=some (.lst (gi (r9 ns)))
 U6:ip A H' d D W
 own:∀x,W x→H x=none
 inv:Inv D
 sz:Sz n D
 stores:D.stores=sy ns
 names:∀x∈D.names,∃j:Nat,j<n∧x=nameOf (Bb ns 3) j
def N0(K:PySem.W.Frag)(A:Ad):Sp:=fun vs H Q _=>∃(a:Addr)(ns:List Int)(first:Int)(n:Nat)(bk:Bool),vs=[.ref a,.int first,.int n,.bl bk]∧g_ K H a (ns.map V.int)∧ns.length≤1000∧0≤first∧first≤1000∧n≤35∧∀b d ss fs D W H',Built A ns n H H' b d ss fs D W→Q (.ref b) H'
theorem Lo(T:Txt mg)(O:Ok K mg A):iw P w K mg base m_ 8 A.xo A.xp ["script","first","most","backs"] (N0 K A):=by
 have xX:=B5 (P:=P) (w:=w) (base:=base) T O
 have qr:=(DV (P:=P) (w:=w) (base:=base) T O).CG
 have mv:=FX (P:=P) (w:=w) (base:=base) T O
 have i6:=FW (P:=P) (w:=w) (base:=base) T O
 have Ea:=Lj (P:=P) (w:=w) (base:=base) T O
 have Eb:=Lm (P:=P) (w:=w) (base:=base) T O
 refine O.A3.f.ok je (fun vs H Q E h=>?_) (fun jL A0 outer s H vs Q E hr h=>?_)
 · obtain⟨a,ns,first,n,bk,rfl,_⟩:=h
   rfl
 · obtain⟨a,ns,first,n,bk,rfl,ha,JU,Zn,hf1,hn,q⟩:=h
   have sz:sizeLine=16777216:=aat
   refine⟨_,(c_ (gs (i:=4) je.nd rfl (Or.inl rfl) (HQ O.Nx xX (hr.mono (by decide)) rfl O.Ny O.sV.b .nil oa))
     (c_ (C3 (j:=5) q_ (fO ml).names [8] je.nd rfl rfl rfl (lb rfl T.nj (a_ f_ d_)) rfl (by decide+kernel) (fun _ _ _ _=>(gr (i:=8) je.nd rfl (Or.inl rfl))) (fun _ _ _ _=>mx) (fun _ _ _ _=>⟨_,pN O.pJ mv hr (a_ (gn iU (pN O.js i6 hr (a_ (pv 0) (a_ f_ d_))) f_) (a_ (pv 8) d_)),by(try simp only [iu]);rfl⟩))
     (c_ (C3 (j:=6) q_ (fO ml).names [8] je.nd rfl rfl rfl (lb rfl T.nj (a_ f_ d_)) rfl (by decide+kernel) (fun _ _ _ _=>(gr (i:=8) je.nd rfl (Or.inl rfl))) (fun _ _ _ _=>mx) (fun _ _ _ _=>⟨_,pN O.pJ mv hr (a_ (gn iU (pN O.js i6 hr (a_ (pv 0) (a_ f_ d_))) f_) (a_ (pv 8) d_)),by(try simp only [iu]);rfl⟩))
     (c_ (iL PassesOwn.never rfl (iq (pv 5)) (gr (i:=7) je.nd rfl (Or.inl rfl)) (e_ (hZ (tD (pv 4) O.gq O.tN qr hr (a_ (pv 7) d_)))))
     (c_ (iL PassesOwn.never rfl (lb rfl T.nj (a_ (pv 2) d_)) (gr (i:=8) je.nd rfl (Or.inl rfl)) (c_ (gs (i:=9) je.nd rfl (Or.inl rfl) (pN O.js i6 hr (a_ (pv 0) (a_ (gn iP (pv 1) (pv 8)) d_))))
     (c_ (oQ (iF (ij PX (gn iP (pv 1) (pv 8)) (gA gm (by rfl) T.jw aan (a_ (pv 0) d_)) (iD _)) (e_ (gs (i:=9) je.nd rfl (Or.inl rfl) (pN O.AZ Ea hr (a_ (pN O.js i6 hr (a_ (pv 0) (a_ f_ d_))) (a_ (pv 8) (a_ f_ d_)))))) ib))
     (e_ (hZ (pN O.A2 Eb hr (a_ (pv 4) (a_ (pv 5) (a_ (pv 6) (a_ (pv 9) (a_ (pN O.pJ mv hr (a_ (gn iU (pN O.js i6 hr (a_ (pv 0) (a_ f_ d_))) f_) (a_ (pv 8) d_))) (a_ (pv 3) d_))))))))))))
     (e_ (h_ (iQ (a_ (pv 4) (a_ (pv 5) (a_ (pv 6) d_))))))))))),?_⟩
   refine Qe ?_;intro _ _ _ _ _
   intro d px nd Wr nxd
   refine⟨d,px,rfl,b_,fun H1 W X1 hW k1=>⟨rfl,?_⟩⟩
   have s0:gg H (upd (upd H px (.own d)) d (.ins A.gk px [])):=fun b o e=>by rw[de (gc e nd),de (gc e Wr)];exact e
   have s1:gg H H1:=fun b o e=>k1 b o (s0 b o e) (gc e nd)
   have hW0:∀b,W b→H b=none:=fun b hb=>s0.free (hW b hb)
   refine⟨_,rfl,by decide,by decide,?_⟩
   refine ui (n:=3) (by decide) (fun m ys σ H2=>∃(v8:Option V),σ=[some (.ref a),some (.int first),some (.int n),some (.bl bk),some (.ref d),none,none,none,v8,none]∧H2=H1∧ys=gi ((List.range m).map fun(j:Nat)=>nameOf (Bb ns 0) j)) ⟨none,rfl,rfl,rfl⟩ (fun m ys σ H2 ⟨_,_,_,e⟩=>by rw[e];simp) ?_ ?_
   · rintro m ys σ H2 hm ⟨v8,rfl,rfl,rfl⟩
     refine⟨_,rfl,a,ns,0,rfl,oM ha s1,by decide,_,_,rfl,rfl,(by show(0:Int)<20736;decide),_,rfl,_,_,rfl,?_⟩
     refine⟨_,rfl,rfl,?_⟩
     rw[List.range_succ,aaq,←nI]
     show _++[V.str (nameOf (Bb ns 0) (0+(m:Int)))]=_
     rw[Int.zero_add]
     rfl
   rintro ys σ H2 ⟨v8,rfl,rfl,rfl⟩ ss OK
   have s2:=s1.new (o:=.lst (gi (sy ns))) OK
   have X2:=X1.same ((gg.refl H2).new (o:=.lst (gi (sy ns))) OK)
   have Sj:(upd H2 ss (.lst (gi (sy ns)))) ss=some (.lst (gi (sy ns))):=b_
   have WD:gi ((List.range 3).map fun(j:Nat)=>nameOf (Bb ns 0) j)=gi (sy ns):=rfl
   rw[WD]
   generalize upd H2 ss (.lst (gi (sy ns)))=H3 at s2 X2 Sj
   refine⟨_,rfl,by decide,by decide,?_⟩
   refine ui (n:=2) (by decide) (fun m ys σ H2=>∃(v8:Option V),σ=[some (.ref a),some (.int first),some (.int n),some (.bl bk),some (.ref d),some (.ref ss),none,none,v8,none]∧H2=H3∧ys=gi ((List.range m).map fun(j:Nat)=>nameOf (Bb ns 1) j)) ⟨none,rfl,rfl,rfl⟩ (fun m ys σ H2 ⟨_,_,_,e⟩=>by rw[e];simp) ?_ ?_
   · rintro m ys σ H2 hm ⟨v8,rfl,rfl,rfl⟩
     refine⟨_,rfl,a,ns,1,rfl,oM ha s2,by decide,_,_,rfl,rfl,(by show(0:Int)<20736;decide),_,rfl,_,_,rfl,?_⟩
     refine⟨_,rfl,rfl,?_⟩
     rw[List.range_succ,aaq,←nI]
     show _++[V.str (nameOf (Bb ns 1) (0+(m:Int)))]=_
     rw[Int.zero_add]
     rfl
   rintro ys σ H4 ⟨v8,rfl,rfl,rfl⟩ fs xx
   have WE:gi ((List.range 2).map fun(j:Nat)=>nameOf (Bb ns 1) j)=gi (r9 ns):=rfl
   rw[WE]
   have s3:=s2.new (o:=.lst (gi (r9 ns))) xx
   have X3:=X2.same ((gg.refl H4).new (o:=.lst (gi (r9 ns))) xx)
   have OM:=iE (u:=.lst (gi (r9 ns))) xx Sj
   have Sk:(upd H4 fs (.lst (gi (r9 ns)))) fs=some (.lst (gi (r9 ns))):=b_
   generalize upd H4 fs (.lst (gi (r9 ns)))=H5 at s3 X3 OM Sk
   refine⟨_,rfl,ss,rfl,⟨_,g_.of OM⟩,i0 (K:=K) (a:=ss) (xs:=gi (sy ns)) (fun i σ H6=>∃(v7:Option V)(D:Dk)(W:Addr→Prop),σ=[some (.ref a),some (.int first),some (.int n),some (.bl bk),some (.ref d),some (.ref ss),some (.ref fs),v7,none,none]∧gg H H6∧H6 ss=some (.lst (gi (sy ns)))∧H6 fs=some (.lst (gi (r9 ns)))∧ip A H6 d D W∧(∀b,W b→H b=none)∧Inv D∧D.made=[]∧D.stores=(sy ns).take i)
     ⟨none,SY,W,rfl,s3,OM,Sk,X3,hW0,U5,rfl,rfl⟩ (fun i σ H6 _ ⟨_,_,_,_,_,e,_⟩=>g_.of e) ?_ ?_⟩
   · rintro i v σ H6 hx ⟨v7,D,W,rfl,s6,h1,h2,X6,Sl,I6,Pq,ON⟩
     obtain⟨st,xS,rfl⟩:=jQ hx
     have g:=u1 st (UT xS)
     have O_:i<3:=(Rt.mp xS).1
     have LH:st∉D.stores:=fun hm=>by
       rw[ON] at hm
       obtain⟨j,hj⟩:=aaH.mp hm
       have Hn:j<i:=by have:=(Rt.mp hj).1;rw[aav] at this;omega
       rw[abo,aar Hn] at hj
       have:=(abz (Rt.mp hj).1 (Hc ns)).mp (hj.trans xS.symm)
       omega
     obtain⟨π,y⟩:=id X6
     refine⟨_,rfl,d,π.dx,_,rfl,y.hd,(Jt _ _ _).1,_,rfl,d,D,W,st,rfl,X6,g.vZ,?_,fun h=>absurd g h,fun _ h=>absurd h LH,fun _ _ H7 W7 X7 s7 hW7=>?_⟩
     · rw[ON,aav];omega
     · refine⟨_,D.begin st,W7,rfl,fun b o e=>?_,s7 _ _ h1 (X6.lst h1),s7 _ _ h2 (X6.lst h2),X7,fun b hb=>?_,I6.begin LH,Pq,?_⟩
       · exact s7 b o (s6 _ _ e) (fun hb=>by rw[Sl b hb] at e;cases e)
       · rcases hW7 b hb with h|h
         · exact Sl b h
         · exact s6.free h
       · show D.stores++[st]=_
         rw[ON,take_snoc xS]
   rintro σ H6 ⟨v7,D0,W,rfl,s6,h1,h2,X6,Sl,I6,Pq,ON⟩
   have ON:D0.stores=sy ns:=by rw[ON,Ro];exact aai
   refine⟨_,rfl,_,rfl,by omega,by omega,?_⟩
   rw[abv]
   refine nv (fun i σ H7=>∃(v8 v9:Option V)(D:Dk),σ=[some (.ref a),some (.int first),some (.int n),some (.bl bk),some (.ref d),some (.ref ss),some (.ref fs),v7,v8,v9]∧gg H H7∧H7 ss=some (.lst (gi (sy ns)))∧H7 fs=some (.lst (gi (r9 ns)))∧ip A H7 d D W∧Inv D∧Sz i D∧D.stores=sy ns∧∀x∈D.names,∃j:Nat,j<i∧x=nameOf (Bb ns 3) j)
     ⟨none,none,D0,rfl,s6,h1,h2,X6,I6,⟨by rw[Pq];exact UU _,by rw[Pq];exact UU _,by rw[Pq];exact UU _⟩,ON,fun x hx=>by unfold Dk.names at hx;rw[Pq] at hx;cases hx⟩ ?_ ?_
   · rintro i σ H7 hi ⟨v8,v9,D,rfl,s7,k1,k2,X7,I7,z7,T1,Mv⟩
     rw[show(0:Int)+(i:Int)=(i:Int) by omega]
     refine⟨_,rfl,_,rfl,_,rfl,_,_,rfl,rfl,a,ns,_,rfl,oM ha s7,by omega,?_⟩
     refine⟨fun σ H8=>∃c:Int,σ=[some (.ref a),some (.int first),some (.int n),some (.bl bk),some (.ref d),some (.ref ss),some (.ref fs),v7,some (.int i),some (.int c)]∧H8=H7,?_,?_⟩
     · refine⟨_,rfl,_,rfl,_,_,rfl,rfl,_,rfl,a,_,rfl,.inl (oM ha s7),_,_,rfl,rfl,_,rfl,?_⟩
       refine ku (fun _=>?_) (fun _=>⟨_,rfl,rfl⟩)
       refine⟨_,rfl,a,ns,2,rfl,oM ha s7,by decide,_,rfl,_,_,_,rfl,by decide,by omega,by omega,fun x _ _=>⟨x,rfl,rfl⟩⟩
     rintro σ H8 ⟨c,rfl,rfl⟩
     refine⟨_,rfl,_,rfl,_,rfl,_,rfl,_,rfl,a,ns,3,rfl,oM ha s7,by decide,_,_,rfl,rfl,(by show(0:Int)<20736;decide),_,rfl,_,_,rfl,_,rfl,?_⟩
     have gx:=nz (Bb ns 3) (i:Int)
     refine⟨d,ss,fs,D,W,i,sy ns,r9 ns,c,_,bk,rfl,X7,I7,z7,by omega,k1,(by unfold sy;simp),(by show 3≤1000;decide),fun t ht=>⟨by rw[T1];exact ht,(u1 t ht).vZ⟩,k2,(by unfold r9;simp),(by show 2≤1000;decide),JB,gx,fun hm=>?_,fun t ht=>?_,fun H9 D' X9 s9 I9 z9 hs9 hn9=>?_⟩
     · obtain⟨j,hj,e⟩:=Mv _ hm
       have:=zt (by omega) (by omega) (by omega) (by omega) e
       omega
     · obtain⟨j,hj,e⟩:=Mv _ ht
       rw[e];exact(nz _ _).vZ
     · refine⟨_,_,D',rfl,fun b o e=>s9 b o (s7 _ _ e) (fun hb=>by rw[Sl b hb] at e;cases e),s9 _ _ k1 (X7.lst k1),s9 _ _ k2 (X7.lst k2),X9,I9,z9,hs9.trans T1,fun t ht=>?_⟩
       rcases hn9 with e|e
       · rw[e] at ht
         obtain⟨j,hj,e⟩:=Mv _ ht
         exact⟨j,by omega,e⟩
       · rw[e] at ht
         rcases XW.mp ht with ht|ht
         · obtain⟨j,hj,e⟩:=Mv _ ht
           exact⟨j,by omega,e⟩
         · exact⟨i,by omega,UK.mp ht⟩
   · rintro σ H7 ⟨v8,v9,D,rfl,s7,k1,k2,X7,I7,z7,T1,Mv⟩
     refine⟨_,rfl,_,rfl,_,rfl,L2.jK,fun b hb=>?_⟩
     have s8:=s7.new (o:=.lst [.ref d,.ref ss,.ref fs]) hb
     exact q b d ss fs D W _ ⟨s8,s7.free hb,b_,iE hb k1,iE hb k2,X7.same ((gg.refl H7).new hb),Sl,I7,z7,T1,Mv⟩
end
inductive Dv where
 | o
 | s (x:Str)
 | i (n:Int)
 | l (xs:List Dv)
 | t (xs:List Dv)
inductive Rep(H:Hp):Nat→V→Dv→Prop
 | o {n}:Rep H n .jx .o
 | s {n x}:Rep H n (.str x) (.s x)
 | i {n x}:Rep H n (.int x) (.i x)
 | l {n a vs xs} (h:H a=some (.lst vs)) (hl:vs.length=xs.length) (hr:∀(j:Nat) u d,vs[j]?=some u→xs[j]?=some d→Rep H n u d):Rep H (n+1) (.ref a) (.l xs)
 | t {n a vs xs} (h:H a=some (.tup vs)) (hl:vs.length=xs.length) (hr:∀(j:Nat) u d,vs[j]?=some u→xs[j]?=some d→Rep H n u d):Rep H (n+1) (.ref a) (.t xs)
theorem Rep.same{H H':Hp}{n:Nat}{v:V}{d:Dv}(r:Rep H n v d)(s:gg H H'):Rep H' n v d:=by
 induction r with
 | o=>exact .o
 | s=>exact .s
 | i=>exact .i
 | l h hl _ ih=>exact .l (s _ _ h) hl ih
 | t h hl _ ih=>exact .t (s _ _ h) hl ih
theorem Rep.up{H:Hp}{n:Nat}{v:V}{d:Dv}(r:Rep H n v d):Rep H (n+1) v d:=by
 induction r with
 | o=>exact .o
 | s=>exact .s
 | i=>exact .i
 | l h hl _ ih=>exact .l h hl ih
 | t h hl _ ih=>exact .t h hl ih
theorem Rep.mono{H:Hp}{n m:Nat}{v:V}{d:Dv}(r:Rep H n v d)(h:n≤m):Rep H m v d:=by
 obtain⟨k,rfl⟩:=Nat.exists_eq_add_of_le h
 induction k with
 | zero=>exact r
 | succ k ih=>exact(ih (by omega)).up
theorem all_true(n:Nat):((List.range n).all fun _=>true)=true:=by rw[abn];intro x _;rfl
theorem Rep.eq{K:PySem.W.Frag}{H:Hp}{n:Nat}{u v:V}{d:Dv}(r1:Rep H n u d):Rep H n v d→og K H n u v true:=by
 induction r1 generalizing v with
 | @o n=>
   intro r2
   cases r2
   exact og.flat (K:=K) (H:=H) (n:=n) (x:=V.jx) (y:=V.jx) rfl rfl
 | @s n x=>
   intro r2
   cases r2
   have:=og.Ik (K:=K) (H:=H) (n:=n) x x
   rw[VE rfl] at this
   exact this
 | @i n x=>
   intro r2
   cases r2
   have:=og.M9 (K:=K) (H:=H) (n:=n) x x
   rw[VE rfl] at this
   exact this
 | @l n a vs xs h hl hr ih=>
   intro r2
   cases r2 with
   | @l _ c ws _ h' Ho WG=>
     have:=og.lists (K:=K) (H:=H) (n:=n) (e:=fun _=>true) (g_.of h) (g_.of h') (hl.trans Ho.symm) fun j u v hu hv=>by
       have hj:j<xs.length:=by rw[←hl];exact(Rt.mp hu).1
       exact ih j u _ hu (UN hj) (WG j v _ hv (UN hj))
     rw[all_true] at this
     exact this
 | @t n a vs xs h hl hr ih=>
   intro r2
   cases r2 with
   | @t _ c ws _ h' Ho WG=>
     have:=og.pP (K:=K) (H:=H) (n:=n) (e:=fun _=>true) (u_.of h) (u_.of h') fun j u v hu hv=>by
       have hj:j<xs.length:=by rw[←hl];exact(Rt.mp hu).1
       exact ih j u _ hu (UN hj) (WG j v _ hv (UN hj))
     rw[all_true,hl,Ho,beq_self_eq_true,Bool.and_true] at this
     exact this
theorem Rep.Bc{H:Hp}{n:Nat}{a:Addr}{β:Type}{F:V→β→Prop}{g:β→Dv}{vs:List V}{xs:List β}(h:H a=some (.lst vs))(p:Paired F vs xs)(hF:∀v x,F v x→Rep H n v (g x)):Rep H (n+1) (.ref a) (.l (xs.map g)):=by
 refine .l h (by rw[Ro];exact Paired.length p) fun j u d hu hd=>?_
 obtain⟨x,hx,f⟩:=iC p hu
 rw[aah,hx] at hd
 cases hd
 exact hF u x f
theorem Rep.two{H:Hp}{a:Addr}{n:Nat}{u v:V}{x y:Dv}(h:H a=some (.lst [u,v]))(h1:Rep H n u x)(h2:Rep H n v y):Rep H (n+1) (.ref a) (.l [x,y]):=by
 refine .l h rfl fun j u' d hu hd=>?_
 match j with
 | 0=>cases hu;cases hd;exact h1
 | 1=>cases hu;cases hd;exact h2
 | j+2=>simp at hu
def N1(row:List Ln):Dv:=.l (row.map fun l=>.t [.s l.nm.1,.i l.nm.2,.s l.tx])
def U7(qs:List (Nat×Nat)):Dv:=.l (qs.map fun q=>.t [.i q.1,.i q.2])
theorem Jv.rep{H:Hp}{a:Addr}{row:List Ln}(x:Jv H a row):Rep H 2 (.ref a) (N1 row):=by
 obtain⟨vs,h,p⟩:=x
 refine Rep.Bc h p fun v l ⟨t,e,ht⟩=>?_
 subst e
 refine .t ht rfl fun j u d hu hd=>?_
 match j with
 | 0=>cases hu;cases hd;exact .s
 | 1=>cases hu;cases hd;exact .i
 | 2=>cases hu;cases hd;exact .s
 | j+3=>simp at hu
theorem He{H:Hp}{a:Addr}{vs:List V}{qs:List (Nat×Nat)}(h:H a=some (.lst vs))(x:iY H qs vs):Rep H 2 (.ref a) (U7 qs):=by
 refine .l h (by rw[Ro];exact(Paired.length x).symm) fun j u d hu hd=>?_
 obtain⟨q,hq,b,e,hb⟩:=lj x hu
 subst e
 rw[aah,hq] at hd
 cases hd
 refine .t hb rfl fun j u d hu hd=>?_
 match j with
 | 0=>cases hu;cases hd;exact .i
 | 1=>cases hu;cases hd;exact .i
 | j+2=>simp at hu
noncomputable def L9(D:Dk)(s:Str)(files:List Str):Dv:=.l (files.map fun f=>.l [N1 (D.row s f),U7 (D.xG s f)])
section
variable{P:Program}{w:World}{K:PySem.W.Frag}{mg:Str→Option Value}{base:Heap}{A:Ad}
def N3(A:Ad):Sp:=fun vs H Q _=>∃(d fs:Addr)(D:Dk)(W:Addr→Prop)(s:Str)(files:List Str),vs=[.ref d,.str s,.ref fs]∧ip A H d D W∧Inv D∧Small D.made∧s∈D.stores∧jO s∧H fs=some (.lst (gi files))∧files.length≤1000∧∀p H',gg H H'→H p=none→Rep H' 4 (.ref p) (L9 D s files)→Q (.ref p) H'
theorem Lq(T:Txt mg)(O:Ok K mg A):iw P w K mg base m_ 7 A.xq A.xr ["desk","store","files"] (N3 A):=by
 have nZ:=(E4 (P:=P) (w:=w) (base:=base) T O).CG
 have j_:=(rP (P:=P) (w:=w) (base:=base) T O).CG
 refine O.vU.f.ok uD (fun vs H Q E h=>?_) (fun jL A0 outer s H vs Q E hr h=>?_)
 · obtain⟨d,fs,D,W,s,files,rfl,_⟩:=h
   rfl
 · obtain⟨d,fs,D,W,st,files,rfl,X,I,sm,hs,Fi,xx,Y_,q⟩:=h
   obtain⟨π,y⟩:=id X
   have sz:sizeLine=16777216:=aat
   refine⟨_,(e_ (h_ (uh wM (fO oy).names [3] rfl (iq (pv 2)) rfl (by decide+kernel) (fun _ _ _ _=>(gr (i:=3) uD.nd rfl (Or.inl rfl))) (fun _ _ _ _=>mx) (fun _ _ _ _=>⟨_,iQ (a_ (tD (pv 0) O.gq O.uR nZ hr (a_ (pv 1) (a_ (pv 3) d_))) (a_ (tD (pv 0) O.gq O.l9 j_ hr (a_ (pv 1) (a_ (pv 3) d_))) d_)),by(try simp only [iu]);rfl⟩)))),?_⟩
   refine⟨_,rfl,fs,rfl,⟨_,g_.of xx⟩,jP (K:=K) (a:=fs) (xs:=gi files) (by rw[Ro];omega) (fun i ys σ H4=>∃(v3:Option V),σ=[some (.ref d),some (.str st),some (.ref fs),v3]∧gg H H4∧Paired (fun v f=>Rep H4 3 v (.l [N1 (D.row st f),U7 (D.xG st f)])) ys (files.take i))
     ⟨none,rfl,gg.refl _,.nil⟩ (fun i ys σ H4 _ ⟨_,_,e,e2⟩=>⟨g_.of (e _ _ xx),by rw[Paired.length e2,aav];omega⟩) ?_ ?_⟩
   · rintro i v ys σ H4 hx ⟨v3,rfl,s4,e2⟩
     obtain⟨f,hf,rfl⟩:=jQ hx
     refine⟨_,rfl,d,π.dx,_,rfl,s4 _ _ y.hd,(xQ _ _ _).2.2.2.1,_,rfl,_,rfl,d,D,W,st,f,rfl,X.same s4,Fi,sm,I,fun h=>absurd hs h,fun _ r H5 LI sv Ax=>?_⟩
     have s5:=s4.trans LI
     refine⟨_,rfl,d,π.dx,_,rfl,s5 _ _ y.hd,(xQ _ _ _).2.2.2.2.1,_,rfl,_,rfl,d,D,W,st,f,rfl,X.same s5,Fi,sm,I,fun h=>absurd hs h,fun _ c H6 qs Pm R4 Ou T3=>⟨L2.jK,fun u hu=>?_⟩⟩
     have WH:gg H6 (upd H6 u (.lst [.ref r,.ref c])):=(gg.refl H6).new hu
     have Zp:=(LI.trans Pm).trans WH
     refine⟨_,rfl,s4.trans Zp,?_⟩
     rw[take_snoc hf]
     refine iG (Paired.kO e2 fun _ _ z=>z.same Zp) ?_
     exact Rep.two b_ ((Ax.rep.same Pm).same WH) ((He Ou T3).same WH)
   · rintro ys σ H4 ⟨v3,rfl,s4,e2⟩ p hp
     rw[Ro,aai] at e2
     have s5:gg H4 (upd H4 p (.lst ys)):=(gg.refl H4).new hp
     exact q p _ (s4.trans s5) (s4.free hp) (Rep.Bc b_ e2 fun _ _ z=>z.same s5)
end
end PK
namespace PM
open PySem
theorem E_{xs l:List Str}(h:l.Sublist xs)(nd:xs.Nodup):(xs.filter fun y=>y∈l)=l:=by
 induction h with
 | slnil=>rfl
 | @cons l1 l2 a h ih=>
   rw[aaK] at nd
   have hn:a∉l1:=fun z=>nd.1 (h.subset z)
   rw[X_ (by simpa using hn)]
   exact ih nd.2
 | @cons_cons l1 l2 a h ih=>
   rw[aaK] at nd
   rw[XU (by simp)]
   congr 1
   rw[←ih nd.2]
   refine List.filter_congr fun y hy=>?_
   have hya:y≠a:=fun e=>nd.1 (e▸hy)
   rw[ih nd.2]
   simp[hya]
theorem JC{D:Dk}(I:Inv D){x:Str}(hx:x∈D.names):(D.names.filter fun y=>decide (y=x)||decide (y∈D.ir x))=D.jh x++[x]:=by
 obtain⟨q,hq,rfl⟩:=aaA.mp hx
 obtain⟨i,hi⟩:=aaH.mp hq
 have hb:=I.before i q hi
 have e:D.names=(D.made.take i).map (·.nm)++q.nm::(D.made.drop (i+1)).map (·.nm):=by
   have zv:=(Rt.mp hi).1
   unfold Dk.names
   conv=>lhs;rw[←aa8 i D.made,aaI zv,(Rt.mp hi).2]
   rw[aaq,aas]
 have hn:=I.nd
 unfold Dk.jh
 rw[e] at hn ⊢
 rw[aaO,aaK] at hn
 obtain⟨n1,⟨n2,n3⟩,n4⟩:=hn
 have Sm:=I.vE hx
 have hA:∀y∈(D.made.take i).map (·.nm),y≠q.nm:=fun y hy z=>n4 y hy q.nm aal z
 have hB1:∀y∈(D.made.drop (i+1)).map (·.nm),y≠q.nm:=fun y hy z=>n2 (z▸hy)
 have Zq:∀y∈(D.made.drop (i+1)).map (·.nm),y∉D.ir q.nm:=fun y hy z=>n4 y (hb y z) y (aaf _ hy) rfl
 rw[aay,aay,XU (by simp),X_ (by simpa using Sm)]
 have e1:((D.made.take i).map (·.nm)).filter (fun y=>decide (y=q.nm)||decide (y∈D.ir q.nm))=((D.made.take i).map (·.nm)).filter fun y=>decide (y∈D.ir q.nm):=List.filter_congr fun y hy=>by rw[aaa (hA y hy),Bool.false_or]
 have e2:((D.made.drop (i+1)).map (·.nm)).filter (fun y=>decide (y=q.nm)||decide (y∈D.ir q.nm))=[]:=abG.mpr fun y hy=>by simp[hB1 y hy,Zq y hy]
 have e3:((D.made.drop (i+1)).map (·.nm)).filter (fun y=>decide (y∈D.ir q.nm))=[]:=abG.mpr fun y hy=>by simp[Zq y hy]
 rw[e1,e2,e3,aaF]
theorem Lr{D:Dk}(I:Inv D){x:Str}(hx:x∈D.names):(D.jh x++[x]).Sublist D.names:=by
 rw[←JC I hx];exact aaN
theorem Hf{l:List Str}{x:Str}(nd:(l++[x]).Nodup):((l++[x]).filter fun y=>decide (y≠x))=l:=by
 rw[aaO] at nd
 rw[aay,X_ (by simp),aaL,aaF]
 exact abB.mpr fun y hy=>VE fun e=>nd.2.2 y hy x (by simp) e
end PM
namespace PK
open PySem L2 PM
section
variable{P:Program}{w:World}{K:PySem.W.Frag}{mg:Str→Option Value}{base:Heap}{A:Ad}
def Ls:Sp:=fun vs H Q _=>∃(a b:Addr)(x y:List Str),vs=[.ref a,.ref b]∧H a=some (.lst (gi x))∧H b=some (.lst (gi y))∧Q (.bl (decide (x=y))) H
theorem N4:PySem.W.kitOne K (.type "list") (.type "list")=some true:=aar (by decide)
theorem N5:PySem.W.kitOne K (.type "str") (.type "str")=some true:=aar (by decide)
theorem Cd(T:Txt mg)(O:Ok K mg A):iw P w K mg base m_ 1 A.pG A.pH ["found","due"] Ls:=by
 refine O.kD.f.ok oB (fun vs H Q E h=>?_) (fun jL A outer s H vs Q E hr h=>?_)
 · obtain⟨a,b,x,y,rfl,_⟩:=h
   rfl
 · obtain⟨a,b,x,y,rfl,ha,hb,q⟩:=h
   refine⟨_,(c_ (iF ((pw_or (nB (pR (gA wC (by rfl) T.uE PyProof.Rows.boot_isinstance (a_ (pv 0) (a_ (Fm (v:=.ty "list") (by rfl) T.vR abm rfl) d_))))) (pw_or1 (ij Ft (gA gm (by rfl) T.jw aan (a_ (pv 0) d_)) (gA gm (by rfl) T.jw aan (a_ (pv 1) d_)) (iD _)))).pt) (e_ (h_ kS)) ib)
     (c_ (iL PassesOwn.never rfl (iq (pv 0)) (gr (i:=2) oB.nd rfl (Or.inl rfl)) (e_ (iF (nB (pR (gA wC (by rfl) T.uE PyProof.Rows.boot_isinstance (a_ (pv 2) (a_ (Fm (v:=.ty "str") (by rfl) T.Qp PyProof.Rows.boot_str rfl) d_))))) (e_ (h_ kS)) ib)))
     (e_ (h_ (Fv (Bu 3 (by exact OZ hr)) (pv 0) (pv 1) (iD _)))))),?_⟩
   refine Fz ?_;intro _ _
   refine⟨_,rfl,_,_,_,_,rfl,.lst ha,N4,_,rfl,jU ?_⟩
   refine⟨_,rfl,a,_,rfl,.inl (g_.of ha),_,rfl,b,_,rfl,.inl (g_.of hb),rfl,_,rfl,?_⟩
   refine ku (fun hc=>?_) (fun hc=>?_)
   · rw[aaa fun z=>?_] at q
     · exact q
     · subst z;simp at hc
   · refine⟨_,rfl,a,rfl,⟨_,g_.of ha⟩,i0 (K:=K) (a:=a) (xs:=gi x) (fun i σ H2=>∃v,σ=[some (.ref a),some (.ref b),v]∧H2=H) ⟨none,rfl,rfl⟩ (fun i σ H2 _ ⟨_,_,e⟩=>by subst e;exact g_.of ha) ?_ ?_⟩
     · rintro i v σ H2 hv ⟨u,rfl,rfl⟩
       obtain⟨z,_,rfl⟩:=jQ hv
       refine⟨_,rfl,_,_,_,_,rfl,.str z,N5,_,rfl,jU ?_⟩
       exact⟨_,rfl,rfl⟩
     · rintro σ H2 ⟨u,rfl,rfl⟩
       exact⟨_,rfl,_,rfl,_,⟨a,b,rfl,rfl⟩,FR (g_.of ha) (g_.of hb),q⟩
def Lu(A:Ad):Sp:=fun vs H Q _=>∃(d:Addr)(D:Dk)(W:Addr→Prop)(s x:Str),vs=[.ref d,.str s,.str x]∧ip A H d D W∧Inv D∧tX D.made.length∧jO s∧jO x∧(∀z∈D.names,jO z)∧s∈D.stores∧x∈D.held s∧¬(∀z∈D.held s,x∉D.ir z)∧∀H',gg H H'→Q (.bl true) H'
theorem JD(T:Txt mg)(O:Ok K mg A):iw P w K mg base m_ 3 A.uN A.uO ["desk","store","name"] (Lu A):=by
 have mr:=B8 (P:=P) (w:=w) (base:=base) T O
 refine O.zf.f.ok Ae (fun vs H Q E h=>?_) (fun jL A0 outer s H vs Q E hr h=>?_)
 · obtain⟨d,D,W,s,x,rfl,_⟩:=h
   rfl
 · obtain⟨d,D,W,st,x,rfl,X,I,jK,fs,fx,fz,hs,hx,hl,q⟩:=h
   obtain⟨π,y⟩:=id X
   refine⟨_,(c_ (Nd ⟨rfl,rfl,rfl⟩ O.FJ.m (by rfl) (fun σ₀ pn E' EX hp=>(e_ (hZ (Iv (pv 0) O.gq O.pI.t mr (hr.mono (by decide)) O.pI.b .nil hp (a_ (pv 1) (a_ (pv 2) d_)))))) (fun e=>(e_ (h_ kS))))
     (e_ (h_ kS))),?_⟩
   refine Hw ?_;intro _
   refine⟨rfl,_,rfl,d,π.dx,_,rfl,y.hd,(Jt _ _ _).2.2.2.2.2,_,rfl,_,rfl,d,D,W,st,x,rfl,X,I,jK,fs,fx,fz,fun h=>absurd hs h,fun _ h=>absurd hx h,fun _ _ _=>?_,fun _ _ h=>absurd h hl⟩
   exact⟨_,rfl,O.rG,q H (gg.refl H)⟩
end
open Kp (k_ iY)
theorem DZ(x:Str):∀l:List Str,MU (.str x) (gi l)=decide (x∈l):=by
 intro l
 unfold MU
 rw[abg,List.any_map,List.any_eq_true,decide_eq_true_iff]
 constructor
 · rintro⟨y,hy,e⟩
   have e:(y ==x)=true:=e
   rw[←eq_of_beq e];exact hy
 · exact fun h=>⟨x,h,by show(x ==x)=true;exact beq_self_eq_true x⟩
theorem Rep.D1{A:Ad}{H H':Hp}{d:Addr}{D:Dk}{W:Addr→Prop}{n:Nat}{v:V}{x:Dv}(X:ip A H d D W)(s:mU W H H')(r:Rep H n v x):Rep H' n v x:=by
 induction r with
 | o=>exact .o
 | s=>exact .s
 | i=>exact .i
 | l h hl _ ih=>exact .l (s _ _ h (X.lst h)) hl ih
 | t h hl _ ih=>exact .t (s _ _ h (X.tup h)) hl ih
def Dr(D:Dk)(ss:List Str)(H:Hp)(v:V):Prop:=∃p s x,v=.ref p∧H p=some (.lst [.str s,.str x])∧s∈ss∧x∈D.has s
theorem Dr.same{D:Dk}{ss:List Str}{H H':Hp}{v:V}(r:Dr D ss H v)(s:gg H H'):Dr D ss H' v:=by
 obtain⟨p,a,x,e,h,r⟩:=r
 exact⟨p,a,x,e,s _ _ h,r⟩
structure Hd(H:Hp)(bl d ss fs dr du:Addr)(fl:List Str)(src x:Str)(zz:List Str):Prop where
 b:H bl=some (.lst [.ref d,.ref ss,.ref fs])
 f:H fs=some (.lst (gi fl))
 r:H dr=some (.lst [.str src,.str x])
 u:H du=some (.lst (gi zz))
theorem Hd.same{H H':Hp}{bl d ss fs dr du:Addr}{fl:List Str}{src x:Str}{zz:List Str}(h:Hd H bl d ss fs dr du fl src x zz)(s:gg H H'):Hd H' bl d ss fs dr du fl src x zz:=⟨s _ _ h.b,s _ _ h.f,s _ _ h.r,s _ _ h.u⟩
theorem Hd.D1{A:Ad}{D:Dk}{W:Addr→Prop}{H H':Hp}{bl d d' ss fs dr du:Addr}{fl:List Str}{src x:Str}{zz:List Str}(h:Hd H bl d ss fs dr du fl src x zz)(X:ip A H d' D W)(s:mU W H H'):Hd H' bl d ss fs dr du fl src x zz:=⟨s _ _ h.b (X.lst h.b),s _ _ h.f (X.lst h.f),s _ _ h.r (X.lst h.r),s _ _ h.u (X.lst h.u)⟩
theorem nA(D:Dk)(s:Str)(l:List Str):(jC D s l).held s=l:=aar rfl
theorem JE{D:Dk}(I:Inv D){s:Str}{l:List Str}(h:l.Sublist D.names):(jC D s l).has s=l:=by
 unfold Dk.has
 rw[nA]
 exact E_ h I.nd
theorem FZ{D:Dk}{s f:Str}(h:D.held s=[]):D.row s f=[]:=by
 have e:D.pO s=[]:=by unfold Dk.pO;rw[h];simp
 unfold Dk.row
 rw[e]
 rfl
theorem JF{D:Dk}{s f:Str}(h:D.held s=[]):D.xG s f=[]:=by
 unfold Dk.xG
 rw[FZ h]
 simp[ky]
theorem eq_nil{K:PySem.W.Frag}{H:Hp}{n:Nat}{a c:Addr}(h1:H a=some (.lst []))(h2:H c=some (.lst [])):og K H (n+1) (.ref a) (.ref c) true:=
 og.lists (e:=fun _=>true) (g_.of h1) (g_.of h2) rfl fun j u v h=>by simp at h
theorem JG(l:List Str)(z:Str):sA (gi (l++[z])) none (some (-1))=gi l:=by
 have e:HT.CD (gi (l++[z])).length (gi (l++[z])).length (some (-1))=l.length:=by
   show(if(-1:Int)<0 then((-1:Int)+((gi (l++[z])).length:Int)).toNat else min (-1:Int).toNat (gi (l++[z])).length)=l.length
   rw[aar (by decide)]
   simp[gi]
   omega
 unfold sA
 rw[e,HT.yt,Nat.sub_zero,List.drop_zero,←iW,List.take_append_of_le_length (by simp[gi]),abH (by simp[gi])]
def Lp(A:Ad)(a bl d ss fs dr cm du fr t:Addr)(v4:Option V)(fl:List Str)(src x st:Str)(zz:List Str)(Db:Dk)(W:Addr→Prop)(dv:Dv)(k:Nat)(σ:St)(H:Hp):Prop:=
 ∃(lf:Addr)(v11 Fb:Option V),σ=[some (.ref a),some (.ref bl),some (.ref d),some (.ref t),v4,some (.ref dr),some (.str st),some (.ref cm),some (.ref du),some (.ref fr),some (.ref lf),v11,Fb,none,none]∧k≤zz.length∧Hd H bl d ss fs dr du fl src x zz∧Rep H 4 (.ref fr) dv∧H lf=some (.lst (gi (zz.take k)))∧ip A H d (jC Db st (zz.take k)) W∧Inv (jC Db st (zz.take k))
section
variable{P:Program}{w:World}{K:PySem.W.Frag}{mg:Str→Option Value}{base:Heap}{A:Ad}
def F_(K:PySem.W.Frag):Sp:=fun vs H Q _=>∃(a:Addr)(ns:List Int),vs=[.ref a]∧g_ K H a (ns.map V.int)∧ns.length≤63∧∀H',Q (.bl true) H'
theorem N6{f:Addr}{fd:FuncData}(F:AL K "law" "law" AV f fd)(T:Txt mg)(O:Ok K mg A):iw P w K mg base m_ 20 f fd ["script"] (F_ K):=by
 have Ec:=Lo (P:=P) (w:=w) (base:=base) T O
 have i6:=FW (P:=P) (w:=w) (base:=base) T O
 have mv:=FX (P:=P) (w:=w) (base:=base) T O
 have xB:=Lq (P:=P) (w:=w) (base:=base) T O
 have kL:=Cd (P:=P) (w:=w) (base:=base) T O
 have Cj:=JD (P:=P) (w:=w) (base:=base) T O
 have zA:=E2 (P:=P) (w:=w) (base:=base) T O
 have jk:=(E3 (P:=P) (w:=w) (base:=base) T O).CG
 have qr:=(DV (P:=P) (w:=w) (base:=base) T O).CG
 have oN:=(FQ (P:=P) (w:=w) (base:=base) T O).CG
 have mr:=(B8 (P:=P) (w:=w) (base:=base) T O).CG
 have nu:=(DW (P:=P) (w:=w) (base:=base) T O).CG
 have nZ:=(E4 (P:=P) (w:=w) (base:=base) T O).CG
 have j_:=(rP (P:=P) (w:=w) (base:=base) T O).CG
 refine F.ok j4 (fun vs H Q E h=>?_) (fun jL A0 outer s H vs Q E hr h=>?_)
 · obtain⟨a,ns,rfl,_⟩:=h
   rfl
 · obtain⟨a,ns,rfl,ha,hn,q⟩:=h
   have sz:sizeLine=16777216:=aat
   refine⟨_,(c_ (gs (i:=1) j4.nd rfl (Or.inl rfl) (pN O.A3 Ec hr (a_ (pv 0) (a_ f_ (a_ (gn iU (pN O.js i6 hr (a_ (pv 0) (a_ f_ d_))) f_) (a_ kS d_))))))
     (c_ (gs (i:=2) j4.nd rfl (Or.inr rfl) (iy hX (pv 1) f_ (fun _ _=>rfl)))
     (c_ (gs (i:=3) j4.nd rfl (Or.inl rfl) (iQ d_))
     (c_ (oQ (iL PassesOwn.never rfl (iq (iy hX (pv 1) f_ (fun _ _=>rfl))) (gr (i:=4) j4.nd rfl (Or.inr rfl)) (e_ (gs (i:=3) j4.nd rfl (Or.inl rfl) (gn mw (pv 3) (uh FH (fO AV).names [11] rfl (iq (tD (pv 2) O.gq O.kC jk hr (a_ (pv 4) d_))) rfl (by decide+kernel) (fun _ _ _ _=>(gr (i:=11) j4.nd rfl (Or.inl rfl))) (fun _ _ _ _=>mx) (fun _ _ _ _=>⟨_,iQ (a_ (pv 4) (a_ (pv 11) d_)),by(try simp only [iu]);rfl⟩)))))))
     (c_ (iF (ij (Bu 9 (by exact OZ hr)) (pv 3) (iQ d_) (iD _)) (e_ (h_ kS)) ib)
     (c_ (gs (i:=5) j4.nd rfl (Or.inr rfl) (iy hX (pv 3) (gn iU (pN O.js i6 hr (a_ (pv 0) (a_ f_ d_))) (gA gm (by rfl) T.jw aan (a_ (pv 3) d_))) (fun _ _=>rfl)))
     (c_ (gs (i:=6) j4.nd rfl (Or.inl rfl) (pN O.pJ mv hr (a_ (gn iU (pN O.js i6 hr (a_ (pv 0) (a_ f_ d_))) f_) (a_ f_ d_))))
     (c_ (hZ (tD (pv 2) O.gq O.tN qr hr (a_ (pv 6) d_)))
     (c_ (gs (i:=7) j4.nd rfl (Or.inl rfl) (tD (pv 2) O.gq O.se oN hr (a_ (pv 6) (a_ (iy hX (pv 5) f_ (fun _ _=>rfl)) (a_ (iy hX (pv 5) f_ (fun _ _=>rfl)) d_)))))
     (c_ (vp (j:=8) FH (fO AV).names [11] j4.nd rfl rfl rfl (iq (yq (pv 2) O.gq O.qj.t zA (hr.mono (by decide)) O.qj.b .nil oa)) rfl (by decide+kernel) (fun _ _ _ _=>(gr (i:=11) j4.nd rfl (Or.inl rfl))) (fun _ _ _ _=>⟨_,nG ((pw_or (ij me (pv 11) (iy hX (pv 5) f_ (fun _ _=>rfl)) (iD _)) (pw_or1 (ij AG (pv 11) (tD (pv 2) O.gq O.qk nu hr (a_ (iy hX (pv 5) f_ (fun _ _=>rfl)) d_)) rfl))).pt),by(try simp only [iu]);rfl⟩) (fun _ _ _ _=>⟨_,(pv 11),by(try simp only [iu]);rfl⟩))
     (c_ (iF ((pw_or (nB (pR (pN O.kD kL hr (a_ (pv 7) (a_ (pv 8) d_))))) (pw_or1 (nB (pR (pN O.kD kL hr (a_ (tD (pv 2) O.gq O.kC jk hr (a_ (pv 6) d_)) (a_ (pv 8) d_))))))).pt) (e_ (h_ kS)) ib)
     (c_ (gs (i:=9) j4.nd rfl (Or.inl rfl) (pN O.vU xB hr (a_ (pv 2) (a_ (pv 6) (a_ (iy hX (pv 1) f_ (fun _ _=>rfl)) d_)))))
     (c_ (gs (i:=10) j4.nd rfl (Or.inl rfl) (rY ug (by rfl) T.vR abm (a_ (pv 8) d_)))
     (c_ (oQ (yi PassesOwn.never (ij yn (gA gm (by rfl) T.jw aan (a_ (pv 10) d_)) f_ (iD _)) (c_ (iL PassesOwn.never rfl (iq (pv 10)) (gr (i:=11) j4.nd rfl (Or.inr rfl)) (c_ (vp (j:=12) FH (fO AV).names [14] j4.nd rfl rfl rfl (iq (pv 10)) rfl (by decide+kernel) (fun _ _ _ _=>(gr (i:=14) j4.nd rfl (Or.inl rfl))) (fun _ _ _ _=>⟨_,nG (ij AG (pv 11) (tD (pv 2) O.gq O.qk nu hr (a_ (pv 14) d_)) rfl),by(try simp only [iu]);rfl⟩) (fun _ _ _ _=>⟨_,(pv 14),by(try simp only [iu]);rfl⟩))
     (e_ (iF ((pw_and (ij yn (gA gm (by rfl) T.jw aan (a_ (pv 12) d_)) f_ (iD _)) (pw_and1 (nB (pR (pN O.zf Cj hr (a_ (pv 2) (a_ (pv 6) (a_ (pv 11) d_)))))))).pt) (e_ (h_ kS)) ib))))
     (c_ (iF ((pw_or (ij Ft (iy hX (pv 10) (qP nE f_) (fun _ _=>rfl)) (iy hX (pv 8) (gn ym (gA gm (by rfl) T.jw aan (a_ (pv 10) d_)) f_) (fun _ _=>rfl)) (iD _)) (pw_or1 (jn (pQ (tD (pv 2) O.gq O.pI mr hr (a_ (pv 6) (a_ (iy hX (pv 10) (qP nE f_) (fun _ _=>rfl)) d_))))))).pt) (e_ (h_ kS)) ib)
     (c_ (gs (i:=10) j4.nd rfl (Or.inl rfl) (ly mX (pv 10) mV (mW (qP nE f_))))
     (e_ (iF (nB (pR (pN O.kD kL hr (a_ (tD (pv 2) O.gq O.kC jk hr (a_ (pv 6) d_)) (a_ (pv 10) d_))))) (e_ (h_ kS)) ib)))))))
     (c_ (oQ (iL PassesOwn.never rfl (iq (iy hX (pv 1) f_ (fun _ _=>rfl))) (gr (i:=13) j4.nd rfl (Or.inl rfl)) (e_ (iF ((pw_or (ij (Ij 9 (by exact OZ hr)) (tD (pv 2) O.gq O.uR nZ hr (a_ (pv 6) (a_ (pv 13) d_))) (iQ d_) (iD _)) (pw_or1 (ij (Ij 9 (by exact OZ hr)) (tD (pv 2) O.gq O.l9 j_ hr (a_ (pv 6) (a_ (pv 13) d_))) (iQ d_) (iD _)))).pt) (e_ (h_ kS)) ib))))
     (c_ (iF (nB (pR (pN O.kD kL hr (a_ (tD (pv 2) O.gq O.se oN hr (a_ (pv 6) (a_ (iy hX (pv 5) f_ (fun _ _=>rfl)) (a_ (iy hX (pv 5) f_ (fun _ _=>rfl)) d_)))) (a_ (pv 8) d_))))) (e_ (h_ kS)) ib)
     (e_ (h_ (Fv (Bu 9 (by exact OZ hr)) (pN O.vU xB hr (a_ (pv 2) (a_ (pv 6) (a_ (iy hX (pv 1) f_ (fun _ _=>rfl)) d_)))) (pv 9) (iD _)))))))))))))))))))),?_⟩
   refine UP ?_;intro _ _ _ _ _ _ _ _ _ _ _ _ _ _ _ _
   have b7:=mod_lt (cellAt ns 4) 17 (by decide)
   obtain⟨n,Mv⟩:∃n:Nat,cellAt ns 4%17=(n:Int):=⟨_,(Int.toNat_of_nonneg b7.1).symm⟩
   refine⟨_,rfl,_,rfl,a,ns,4,rfl,ha,by decide,_,_,rfl,rfl,(by show(0:Int)<17;decide),a,ns,6,n,true,?_,ha,by omega,by decide,by decide,by omega,fun bl d ss fs D W H1 B=>?_⟩
   · show[V.ref a,V.int 6,V.int (cellAt ns 4%17),V.bl true]=_
     rw[Mv]
   have s1:=B.same
   have n7:n<17:=by omega
   have Zr:Sz 35 D:=by
     have h1:=B.sz.many
     have h2:=B.sz.iH
     have h3:=B.sz.j2
     have h4:n*n≤16*16:=Nat.mul_le_mul (by omega) (by omega)
     exact⟨by omega,by omega,by omega⟩
   have sm:=Zr.small (by decide)
   have jK:=sm.many
   have hml:D.made.length≤35:=Zr.many
   have X1:=B.U6
   have I:=B.inv
   obtain⟨π,y⟩:=id X1
   have WI:∀x∈D.names,jO x:=fun x hx=>by
     obtain⟨j,_,e⟩:=B.names x hx
     rw[e];exact(nz _ _).vZ
   have JU:D.names.length≤35:=by
     unfold Dk.names
     rw[Ro];exact hml
   have WJ:∀s,(D.has s).length≤35:=fun s=>by
     unfold Dk.has
     exact aab (aaB _ _) JU
   refine⟨_,rfl,bl,_,_,_,rfl,rfl,g_.of B.at_,iA (j:=0) rfl rfl,?_⟩
   refine⟨L2.jK,fun t0 TH=>?_⟩
   have s2:gg H1 (upd H1 t0 (.lst [])):=(gg.refl H1).new TH
   refine Qf ?_;intro _
   refine⟨fun σ H2=>∃(t:Addr)(vs:List V)(v4:Option V),σ=[some (.ref a),some (.ref bl),some (.ref d),some (.ref t),v4,none,none,none,none,none,none,none,none,none,none]∧gg H1 H2∧H2 t=some (.lst vs)∧vs.length≤3*35∧∀v∈vs,Dr D (sy ns) H2 v,?_,?_⟩
   refine⟨_,rfl,bl,_,_,_,rfl,rfl,g_.of (s2 _ _ B.at_),iA (j:=1) rfl rfl,ss,rfl,⟨_,g_.of (s2 _ _ B.st)⟩,i0 (K:=K) (a:=ss) (xs:=gi (sy ns)) (fun i σ H2=>∃(t:Addr)(vs:List V)(v4:Option V),σ=[some (.ref a),some (.ref bl),some (.ref d),some (.ref t),v4,none,none,none,none,none,none,none,none,none,none]∧gg H1 H2∧H2 t=some (.lst vs)∧vs.length≤i*35∧∀v∈vs,Dr D (sy ns) H2 v)
     ⟨t0,[],none,rfl,s2,b_,by simp,fun v hv=>by cases hv⟩ (fun i σ H2 _ ⟨_,_,_,_,e,_⟩=>g_.of (e _ _ B.st)) ?_ ?_⟩
   · rintro i v σ H2 hv ⟨t,vs,v4,rfl,s2,ht,Pp,Hr⟩
     obtain⟨so,TZ,rfl⟩:=jQ hv
     have OO:=UT TZ
     have hi3:i<3:=by have:=(Rt.mp TZ).1;simp[sy] at this;exact this
     refine⟨_,rfl,_,rfl,d,π.dx,_,rfl,s2 _ _ y.hd,(xQ _ _ _).1,_,rfl,d,D,W,so,rfl,X1.same s2,(u1 so OO).vZ,jK,fun h=>absurd (by rw[B.stores];exact OO) h,fun _ p hp=>?_⟩
     have s3:=(gg.refl H2).new (o:=.lst (gi (D.has so))) hp
     have u3:(upd H2 p (.lst (gi (D.has so)))) p=some (.lst (gi (D.has so))):=b_
     generalize upd H2 p (.lst (gi (D.has so)))=H3 at s3 u3
     have Q9:=WJ so
     refine⟨p,rfl,⟨_,g_.of u3⟩,jP (K:=K) (a:=p) (xs:=gi (D.has so)) (by rw[Ro];omega) (fun i ys σ H4=>∃(v11:Option V),σ=[some (.ref a),some (.ref bl),some (.ref d),some (.ref t),some (.str so),none,none,none,none,none,none,v11,none,none,none]∧gg H3 H4∧ys.length=i∧∀v∈ys,Dr D (sy ns) H4 v)
       ⟨none,rfl,gg.refl _,rfl,fun v hv=>by cases hv⟩ (fun i ys σ H4 _ ⟨_,_,e,e2,_⟩=>⟨g_.of (e _ _ u3),by omega⟩) ?_ ?_⟩
     · rintro j v ys σ H4 hx ⟨v11,rfl,s4,e2,e3⟩
       obtain⟨x,OJ,rfl⟩:=jQ hx
       refine⟨_,rfl,_,rfl,L2.jK,fun u hu=>⟨_,rfl,?_⟩⟩
       have s5:gg H4 (upd H4 u (.lst [V.str so,V.str x])):=(gg.refl H4).new hu
       refine⟨s4.trans s5,by simp[e2],fun v hv=>?_⟩
       rcases XW.mp hv with hv|hv
       · exact(e3 v hv).same s5
       · rw[UK.mp hv]
         exact⟨u,so,x,rfl,b_,OO,UT OJ⟩
     · rintro ys σ H4 ⟨v11,rfl,s4,e2,e3⟩ p3 hp3
       rw[Ro] at e2
       have s5:gg H4 (upd H4 p3 (.lst ys)):=(gg.refl H4).new hp3
       have WK:=(s3.trans s4).trans s5
       refine⟨t,p3,_,_,rfl,rfl,WK _ _ ht,b_,by omega,fun u hu=>?_⟩
       have s6:=(gg.refl (upd H4 p3 (.lst ys))).new (o:=.lst (vs++ys)) hu
       refine⟨u,vs++ys,_,rfl,(s2.trans WK).trans s6,b_,?_,fun v hv=>?_⟩
       · rw[VJ,Nat.succ_mul];omega
       · rcases XW.mp hv with hv|hv
         · exact((Hr v hv).same WK).same s6
         · exact((e3 v hv).same s5).same s6
   · rintro σ H2 ⟨t,vs,v4,rfl,s2,ht,Pp,Hr⟩
     exact⟨t,vs,v4,rfl,s2,ht,Pp,Hr⟩
   rintro σ H2 ⟨t,vs,v4,rfl,s2,ht,Pp,Hr⟩
   refine⟨_,rfl,L2.jK,fun e0 he0=>?_⟩
   have s3:gg H2 (upd H2 e0 (.lst [])):=(gg.refl H2).new he0
   cases vs with
   | nil=>
     exact⟨_,⟨t,e0,rfl,rfl⟩,eq_nil (s3 _ _ ht) b_,_,rfl,lU (q _)⟩
   | cons v0 vr=>
   refine⟨_,⟨t,e0,rfl,rfl⟩,og.Ih (g_.of (s3 _ _ ht)) (g_.of b_) (by simp),_,rfl,jU ?_⟩
   have Hr:=fun v hv=>(Hr v hv).same s3
   have T4:=s3 _ _ ht
   have xy:=s2.trans s3
   generalize upd H2 e0 (.lst [])=H3 at s3 Hr T4 xy
   have Hj:0<(v0::vr).length:=by simp
   generalize v0::vr=vs at ht Hr T4 Hj Pp
   have b8:=mod_lt (cellAt ns 5) (vs.length:Int) (by omega)
   obtain⟨vd,evd,hvd⟩:=o7 (xs:=vs) b8.1 b8.2
   obtain⟨dr,src,x,rfl,Ts,Sn,hx⟩:=Hr vd (UT hvd)
   refine⟨_,rfl,_,rfl,a,ns,5,rfl,oM ha (s1.trans xy),by decide,_,rfl,t,_,rfl,.inl (g_.of T4),_,_,rfl,rfl,(by omega),t,_,_,_,rfl,rfl,g_.of T4,evd,?_⟩
   refine⟨_,rfl,a,ns,0,rfl,oM ha (s1.trans xy),by decide,_,_,rfl,rfl,(by show(0:Int)<20736;decide),Bb ns 0,9,rfl,?_⟩
   have JQ:nameOf (Bb ns 0) 9∉D.stores:=fun z=>by
     rw[B.stores] at z
     unfold sy at z
     simp only [XY,abE,or_false] at z
     rcases z with z|z|z<;>exact absurd (zt (by decide) (by decide) (by decide) (by decide) z) (by decide)
   have T5:Good (nameOf (Bb ns 0) 9):=nz _ _
   generalize nameOf (Bb ns 0) 9=st at JQ T5
   have X3:=X1.same xy
   have hd3:=xy _ _ y.hd
   have Mw:src∈D.stores:=by rw[B.stores];exact Sn
   have So:x∈D.held src∧x∈D.names:=by
     unfold Dk.has at hx
     rw[aao] at hx
     exact⟨aam hx.2,hx.1⟩
   refine⟨_,rfl,d,π.dx,_,rfl,hd3,(Jt _ _ _).1,_,rfl,d,D,W,st,rfl,X3,T5.vZ,by rw[B.stores];simp[sy],fun h=>absurd T5 h,fun _ h=>absurd h JQ,fun _ _ H4 W4 X4 WL w4=>?_⟩
   have Ib:=I.begin JQ
   have LJ:st∈(D.begin st).stores:=by show st∈D.stores++[st];simp
   have OP:src∈(D.begin st).stores:=aap _ Mw
   have Zs:src≠st:=fun z=>JQ (z▸Mw)
   have Tn:x∈(D.begin st).held src:=by show x∈(if src=st then[] else D.held src);rw[aak Zs];exact So.1
   have LK:(D.begin st).held st=[]:=aar rfl
   have Hs:(D.jh x++[x]).Sublist D.names:=Lr I So.2
   have Sq:∀E:Dk,E.made=D.made→E.ir=D.ir→E.held st=[]→E.nc st x=D.jh x++[x]:=fun E e1 e2 e3=>by
     unfold Dk.nc Dk.jh Dk.names
     rw[e1,e2,e3]
     simp
   have VQ:=WL _ _ (xy _ _ B.at_) (X3.lst (xy _ _ B.at_))
   have Zt:=WL _ _ (xy _ _ B.fl) (X3.lst (xy _ _ B.fl))
   have T6:=WL _ _ Ts (X3.lst Ts)
   have fz:∀z∈(D.begin st).names,jO z:=WI
   have OQ:tX (D.begin st).made.length:=jK
   have Sr:Small (D.begin st).made:=sm
   generalize Zu:D.begin st=Db at X4 Ib LJ OP Tn LK fz OQ Sr
   have J0:Db.made=D.made:=by rw[←Zu];rfl
   have Ht:Db.ir=D.ir:=by rw[←Zu];rfl
   have LL:Db.names=D.names:=by unfold Dk.names;rw[J0]
   obtain⟨π4,y4⟩:=id X4
   generalize WM:D.jh x++[x]=zz at Hs Sq
   have Ss:x∈Db.names:=by rw[LL];exact So.2
   have fx:jO x:=WI x So.2
   have Su:jO src:=(u1 src Sn).vZ
   have fst:jO st:=T5.vZ
   refine⟨_,rfl,d,π4.dx,_,rfl,y4.hd,(Jt _ _ _).2.2.2.2.1,_,rfl,_,rfl,dr,_,_,_,rfl,rfl,g_.of T6,iA (j:=0) (v:=V.str src) rfl rfl,_,rfl,dr,_,_,_,rfl,rfl,g_.of T6,iA (j:=1) (v:=V.str x) rfl rfl,d,Db,W4,st,src,x,rfl,X4,Ib,OQ,fst,Su,fx,fun h=>absurd LJ h,fun _ h=>absurd OP h,fun _ _ h=>absurd Tn h,fun _ _ _ cm Hm H5 Zv WN LC X5 x5=>?_⟩
   have I5:=Ib.take (s:=st) (x:=x) LJ Ss
   rw[Sq Db J0 Ht LK] at LC x5
   have e5:Db.take st x=jC Db st zz:=by
     rw[vX,LK,List.nil_append,Sq Db J0 Ht LK]
   rw[e5] at X5 I5
   have WO:mU W4 H4 H5:=fun b o e n=>x5 b o (by rw[de (gc (Zv _ _ e) WN)];exact Zv _ _ e) n
   have hb5:=WO _ _ VQ (X4.lst VQ)
   have hf5:=WO _ _ Zt (X4.lst Zt)
   have WQ:=WO _ _ T6 (X4.lst T6)
   have Sv:zz.Sublist Db.names:=by rw[LL];exact Hs
   have Sw:zz.Nodup:=Hs.nodup I.nd
   have YN:zz.length≤35:=aab Hs.length_le JU
   have hlB:∀z,Db.jh z=D.jh z:=fun z=>by unfold Dk.jh;rw[LL,Ht]
   have Zw:∀l z,(jC Db st l).jh z=D.jh z:=fun l z=>hlB z
   have Zx:∀l,(jC Db st l).names=D.names:=fun l=>LL
   have Tv:∀z,(D.jh z).length≤35:=fun z=>aab (aaB _ _) JU
   have Fj:∀l,tX (jC Db st l).made.length:=fun l=>OQ
   have Zy:∀l,∀z∈(jC Db st l).names,jO z:=fun l=>fz
   have J2:∀l,st∈(jC Db st l).stores:=fun l=>LJ
   have OR:∀l,l.Sublist zz→(jC Db st l).has st=l:=fun l h=>JE Ib (h.trans Sv)
   obtain⟨π5,y5⟩:=id X5
   refine⟨_,rfl,d,π5.dx,_,rfl,y5.hd,(xQ _ _ _).2.2.2.2.2.2.1,d,jC Db st zz,W4,rfl,X5,fun p hp=>?_⟩
   rw[Zx zz]
   have s6:=(gg.refl H5).new (o:=.lst (gi D.names)) hp
   have u6:(upd H5 p (.lst (gi D.names))) p=some (.lst (gi D.names)):=b_
   generalize upd H5 p (.lst (gi D.names))=H6 at s6 u6
   refine⟨p,rfl,⟨_,g_.of u6⟩,jP (K:=K) (a:=p) (xs:=gi D.names) (by rw[Ro];omega) (fun i ys σ H7=>∃(v11:Option V)(zs:List Str),σ=[some (.ref a),some (.ref bl),some (.ref d),some (.ref t),v4,some (.ref dr),some (.str st),some (.ref cm),none,none,none,v11,none,none,none]∧gg H6 H7∧ys=gi zs∧zs=(D.names.take i).filter fun y=>decide (y=x)||decide (y∈D.ir x))
     ⟨none,[],rfl,gg.refl _,rfl,rfl⟩ (fun i ys σ H7 _ ⟨_,zs,_,e,e2,e3⟩=>⟨g_.of (e _ _ u6),by rw[e2,e3,Ro];exact aab (aaB _ _) (by rw[aav];omega)⟩) ?_ ?_⟩
   · rintro i v ys σ H7 hv ⟨v11,zs,rfl,s7,rfl,e3⟩
     obtain⟨z,hz,rfl⟩:=jQ hv
     have R7:=UT hz
     have T7:=s6.trans s7
     have put:∀b:Bool,b=(decide (z=x)||decide (z∈D.ir x))→(D.names.take (i+1)).filter (fun y=>decide (y=x)||decide (y∈D.ir x))=if b=true then zs++[z] else zs:=fun b e=>by
       rw[take_snoc hz,aay,←e3]
       cases b with
       | true=>simp only [abC,aaL,←e];simp
       | false=>simp only [abC,aaL,←e];simp
     refine⟨_,rfl,_,rfl,dr,_,_,_,rfl,rfl,g_.of (T7 _ _ WQ),iA (j:=1) (v:=V.str x) rfl rfl,rfl,_,rfl,ku (fun h=>?_) (fun h=>?_)⟩
     · have h:z=x:=V.str.inj (aam h)
       refine⟨_,rfl,_,_,rfl,s7,iW _ _,?_⟩
       rw[put true (by rw[VE h,Bool.true_or])];rfl
     · have h:¬z=x:=fun e=>h (VE (aaW V.str e))
       refine⟨_,rfl,_,rfl,d,π5.dx,_,rfl,T7 _ _ y5.hd,(xQ _ _ _).2.2.2.2.2.2.2.1,_,rfl,dr,_,_,_,rfl,rfl,g_.of (T7 _ _ WQ),iA (j:=1) (v:=V.str x) rfl rfl,d,jC Db st zz,W4,x,rfl,X5.same T7,fx,Fj zz,fun h=>absurd Ss h,fun _ p7 hp7=>?_⟩
       rw[Zw]
       have s8:=s7.new (o:=.lst (gi (D.jh x))) hp7
       refine⟨p7,_,rfl,.inl (g_.of b_),rfl,by simp[gi,lA],_,rfl,?_⟩
       have eb:MU (.str z) (gi (D.jh x))=(decide (z=x)||decide (z∈D.ir x)):=by
         rw[DZ,aaa h,Bool.false_or]
         unfold Dk.jh
         simp[aao,R7]
       refine ku (fun hb=>?_) (fun hb=>?_)
       · refine⟨_,rfl,_,_,rfl,s8,iW _ _,?_⟩
         have hb:MU (V.str z) (gi (D.jh x))=true:=hb
         rw[put _ eb,aar hb]
       · refine⟨_,_,rfl,s8,rfl,?_⟩
         have hb:¬MU (V.str z) (gi (D.jh x))=true:=hb
         rw[put _ eb,aak hb]
   rintro ys σ H7 ⟨v11,zs,rfl,s7,rfl,e3⟩ du hdu
   rw[Ro,aai,JC I So.2,WM] at e3
   subst e3
   have Mx:=(s6.trans s7).new (o:=.lst (gi zs)) hdu
   have u8:(upd H7 du (.lst (gi zs))) du=some (.lst (gi zs)):=b_
   generalize upd H7 du (.lst (gi zs))=H8 at Mx u8
   have WR:Hd H8 bl d ss fs dr du (r9 ns) src x zs:=⟨Mx _ _ hb5,Mx _ _ hf5,Mx _ _ WQ,u8⟩
   have X8:=X5.same Mx
   refine⟨_,rfl,_,rfl,cm,du,zs,zs,rfl,Mx _ _ LC,WR.u,?_⟩
   rw[VE (rfl:zs=zs)]
   refine⟨_,rfl,jU ?_⟩
   refine⟨_,rfl,d,π5.dx,_,rfl,Mx _ _ y5.hd,(xQ _ _ _).1,_,rfl,d,jC Db st zs,W4,st,rfl,X8,fst,Fj zs,fun h=>absurd (J2 zs) h,fun _ p9 hp9=>?_⟩
   rw[OR zs (aaw _)]
   have s9:gg H8 (upd H8 p9 (.lst (gi zs))):=(gg.refl _).new hp9
   refine⟨_,rfl,p9,du,zs,zs,rfl,b_,s9 _ _ WR.u,?_⟩
   rw[VE (rfl:zs=zs)]
   refine⟨_,rfl,jU ?_⟩
   have T8:=WR.same s9
   have X9:=X8.same s9
   have hd9:=s9 _ _ (Mx _ _ y5.hd)
   generalize upd H8 p9 (.lst (gi zs))=H9 at s9 T8 X9 hd9
   have Sx:(r9 ns).length≤1000:=by simp[r9]
   refine⟨_,rfl,_,rfl,_,rfl,bl,_,_,_,rfl,rfl,g_.of T8.b,iA (j:=2) rfl rfl,d,fs,jC Db st zs,W4,st,r9 ns,rfl,X9,I5,Sr,J2 zs,fst,T8.f,Sx,fun fr Ms HB _ rep=>?_⟩
   have Sy:=T8.same HB
   have X10:=X9.same HB
   generalize eDv:L9 (jC Db st zs) st (r9 ns)=dv at rep
   refine⟨_,rfl,du,_,rfl,.inl (g_.of Sy.u),fun lf hlf=>?_⟩
   have WS:gg Ms (upd Ms lf (.lst (gi zs))):=(gg.refl _).new hlf
   refine UQ ?_;intro _
   refine⟨fun σ H=>Lp A a bl d ss fs dr cm du fr t v4 (r9 ns) src x st zs Db W4 dv 0 σ H,?_,?_⟩
   refine⟨fun m σ H=>Lp A a bl d ss fs dr cm du fr t v4 (r9 ns) src x st zs Db W4 dv m σ H,⟨zs.length,lf,none,none,rfl,UU _,Sy.same WS,rep.same WS,by rw[aai];exact b_,by rw[aai];exact X10.same WS,by rw[aai];exact I5⟩,?_⟩
   rintro k σ Sd ⟨lf,v11,Fb,rfl,hk,HD,rp,hl,XL,IL⟩
   obtain⟨πL,yL⟩:=id XL
   have Om:(gi (zs.take k)).length=k:=by simp[gi];omega
   refine⟨_,rfl,lf,_,rfl,.inl (g_.of hl),_,_,rfl,rfl,_,rfl,ku (fun hc=>?_) (fun hc=>?_)⟩
   · have hc:0<k:=by have:=aam hc;rw[Om] at this;omega
     obtain⟨j,rfl⟩:∃j,k=j+1:=⟨k-1,by omega⟩
     obtain⟨z,hz⟩:∃z,zs[j]?=some z:=⟨_,UN (by omega)⟩
     have Pr:=take_snoc hz
     have Hu:∀i,(zs.take i).Sublist zs:=fun i=>abu i zs
     have WT:∀o∈zs,jO o:=fun o ho=>WI o (Hs.subset ho)
     refine⟨fun σ H=>Lp A a bl d ss fs dr cm du fr t v4 (r9 ns) src x st zs Db W4 dv j σ H,fun σ' H' h=>⟨j,by omega,h⟩,?_⟩
     refine L0 ?_;intro _ _ _
     refine slF ?_;intro _
     refine⟨_,rfl,lf,rfl,⟨_,g_.of hl⟩,i0 (K:=K) (a:=lf) (xs:=gi (zs.take (j+1))) (fun i σ Gg=>∃(v11 Fb:Option V),σ=[some (.ref a),some (.ref bl),some (.ref d),some (.ref t),v4,some (.ref dr),some (.str st),some (.ref cm),some (.ref du),some (.ref fr),some (.ref lf),v11,Fb,none,none]∧gg Sd Gg) ⟨v11,Fb,rfl,gg.refl _⟩ (fun i σ Gg _ ⟨_,_,_,e⟩=>g_.of (e _ _ hl)) ?_ ?_⟩
     · rintro i v σ Gg hv ⟨v11,Fb,rfl,qL⟩
       obtain⟨nm,Pa,rfl⟩:=jQ hv
       have SA:=UT Pa
       refine⟨_,rfl,lf,rfl,⟨_,g_.of (qL _ _ hl)⟩,jP (K:=K) (a:=lf) (xs:=gi (zs.take (j+1))) (by rw[Om];omega) (fun i ys σ Gh=>∃(Rf:Option V),σ=[some (.ref a),some (.ref bl),some (.ref d),some (.ref t),v4,some (.ref dr),some (.str st),some (.ref cm),some (.ref du),some (.ref fr),some (.ref lf),some (.str nm),Fb,none,Rf]∧gg Gg Gh∧ys.length≤i∧(0<ys.length→∃o∈zs.take (j+1),nm∈D.ir o))
         ⟨none,rfl,gg.refl _,UU _,fun h=>absurd h (by simp)⟩ (fun i ys σ Gh _ ⟨_,_,e,e2,_⟩=>⟨g_.of (e _ _ (qL _ _ hl)),e2⟩) ?_ ?_⟩
       · rintro i2 v ys σ Gh hv ⟨Rf,rfl,xy,Ph,hy⟩
         obtain⟨o,ho,rfl⟩:=jQ hv
         have OB:=UT ho
         have SD:=qL.trans xy
         refine⟨_,rfl,_,rfl,d,πL.dx,_,rfl,SD _ _ yL.hd,(xQ _ _ _).2.2.2.2.2.2.2.1,_,rfl,d,jC Db st (zs.take (j+1)),W4,o,rfl,XL.same SD,WT o ((Hu _).subset OB),Fj _,fun h=>absurd (by rw[Zx];exact Hs.subset ((Hu _).subset OB)) h,fun _ p hp=>?_⟩
         rw[Zw]
         have wg:=xy.new (o:=.lst (gi (D.jh o))) hp
         refine⟨p,_,rfl,.inl (g_.of b_),rfl,by simp[gi,lA],_,rfl,ku (fun hb=>?_) (fun hb=>?_)⟩
         · refine⟨_,rfl,_,rfl,wg,by rw[VJ];exact Nat.succ_le_succ Ph,fun _=>⟨o,OB,?_⟩⟩
           rw[DZ] at hb
           have:=aam hb
           unfold Dk.jh at this
           exact aam (aao.mp this).2
         · exact⟨_,rfl,wg,Nat.le_succ_of_le Ph,hy⟩
       · rintro ys σ Gh ⟨Rf,rfl,xy,Ph,hy⟩ up hup
         have wg:=(qL.trans xy).new (o:=.lst ys) hup
         refine⟨_,rfl,up,_,rfl,.inl (g_.of b_),_,_,rfl,rfl,_,rfl,ku (fun hb=>?_) (fun hb=>?_)⟩
         · have Hj:0<ys.length:=by have:=aam hb;omega
           obtain⟨o,OB,YD⟩:=hy Hj
           refine⟨_,rfl,_,rfl,_,rfl,d,jC Db st (zs.take (j+1)),W4,st,nm,rfl,XL.same wg,IL,Fj _,fst,WT nm ((Hu _).subset SA),Zy _,J2 _,by rw[nA];exact SA,fun h=>?_,fun WU HC=>⟨_,rfl,jU ⟨_,_,rfl,wg.trans HC⟩⟩⟩
           refine h o (by rw[nA];exact OB) ?_
           show nm∈Db.ir o
           rw[Ht];exact YD
         · exact⟨_,_,rfl,wg⟩
     rintro σ Gg ⟨v11,Fb,rfl,qL⟩
     have J3:=qL _ _ hl
     have LM:=XL.same qL
     have Hv:=HD.same qL
     have LA:CV (gi (zs.take (j+1))) (-1)=some (V.str z):=by rw[Pr,←iW];exact yu _ _
     have WV:CV (gi zs) (((gi (zs.take (j+1))).length:Int)-1)=some (V.str z):=by
       rw[Om]
       exact iA (j:=j) (by omega) (by unfold gi;rw[aah,hz];rfl)
     have WW:(jC Db st (zs.take (j+1))).has st=zs.take j++[z]:=by rw[OR _ (Hu _),Pr]
     have rR:=IL.vF (J2 _) WW
     refine⟨_,rfl,_,rfl,lf,_,_,_,rfl,rfl,g_.of J3,LA,_,rfl,_,rfl,lf,_,rfl,.inl (g_.of J3),_,_,rfl,rfl,du,_,_,_,rfl,rfl,g_.of Hv.u,WV,rfl,_,rfl,ku (fun h=>absurd h (by simp)) (fun _=>?_)⟩
     have R7:z∈zs:=UT hz
     have hzk:z∈zs.take (j+1):=by rw[Pr];simp
     refine⟨_,rfl,d,πL.dx,_,rfl,qL _ _ yL.hd,(Jt _ _ _).2.2.2.2.2,_,rfl,_,rfl,_,rfl,lf,_,_,_,rfl,rfl,g_.of J3,LA,d,jC Db st (zs.take (j+1)),W4,st,z,rfl,LM,IL,Fj _,fst,WT z R7,Zy _,fun h=>absurd (J2 _) h,fun _ h=>absurd (by rw[nA];exact hzk) h,fun _ _ h=>absurd rR h,fun _ _ _ Gh OS Pu=>⟨_,rfl,jU ?_⟩⟩
     have Zz:=IL.drop (J2 _) rR
     have WX:(jC Db st (zs.take (j+1))).drop st z=jC Db st (zs.take j):=by
       rw[Ba,nA,vY,Pr,Hf (by rw[←Pr];exact(Hu _).nodup Sw)]
     rw[WX] at OS Zz
     have J4:=Hv.D1 LM Pu
     have OT:=(rp.same qL).D1 LM Pu
     have WY:=Pu _ _ J3 (LM.lst J3)
     refine⟨_,rfl,_,rfl,_,rfl,lf,_,rfl,g_.of WY,fun Pw WZ=>?_⟩
     rw[Pr,JG]
     have wg:gg Gh (upd Gh Pw (.lst (gi (zs.take j)))):=(gg.refl _).new WZ
     have W0:(upd Gh Pw (.lst (gi (zs.take j)))) Pw=some (.lst (gi (zs.take j))):=b_
     generalize upd Gh Pw (.lst (gi (zs.take j)))=W3 at wg W0
     obtain⟨π13,y13⟩:=id OS
     refine⟨_,rfl,d,π13.dx,_,rfl,wg _ _ y13.hd,(xQ _ _ _).1,_,rfl,d,jC Db st (zs.take j),W4,st,rfl,OS.same wg,fst,Fj _,fun h=>absurd (J2 _) h,fun _ p hp=>?_⟩
     rw[OR _ (Hu _)]
     have HC:gg W3 (upd W3 p (.lst (gi (zs.take j)))):=(gg.refl _).new hp
     refine⟨_,rfl,p,Pw,_,_,rfl,b_,HC _ _ W0,?_⟩
     rw[VE (rfl:zs.take j=zs.take j)]
     refine⟨_,rfl,jU ⟨Pw,v11,Fb,rfl,by omega,(J4.same wg).same HC,(OT.same wg).same HC,HC _ _ W0,(OS.same wg).same HC,Zz⟩⟩
   · have Mr:k=0:=by
       have h:¬0<((gi (zs.take k)).length:Int):=fun z=>hc (VE z)
       rw[Om] at h;omega
     subst Mr
     exact⟨lf,v11,Fb,rfl,hk,HD,rp,hl,XL,IL⟩
   rintro σ Sd ⟨lf,v11,Fb,rfl,hk,HD,rp,hl,XL,IL⟩
   obtain⟨πL,yL⟩:=id XL
   rw[aa9] at XL IL
   have SE:(jC Db st []).held st=[]:=nA _ _ _
   refine Qf ?_;intro _
   refine⟨fun σ Gg=>∃(Hk:Option V),σ=[some (.ref a),some (.ref bl),some (.ref d),some (.ref t),v4,some (.ref dr),some (.str st),some (.ref cm),some (.ref du),some (.ref fr),some (.ref lf),v11,Fb,Hk,none]∧gg Sd Gg,?_,?_⟩
   refine⟨_,rfl,bl,_,_,_,rfl,rfl,g_.of HD.b,iA (j:=2) rfl rfl,fs,rfl,⟨_,g_.of HD.f⟩,i0 (K:=K) (a:=fs) (xs:=gi (r9 ns)) (fun i σ Gg=>∃(Hk:Option V),σ=[some (.ref a),some (.ref bl),some (.ref d),some (.ref t),v4,some (.ref dr),some (.str st),some (.ref cm),some (.ref du),some (.ref fr),some (.ref lf),v11,Fb,Hk,none]∧gg Sd Gg) ⟨none,rfl,gg.refl _⟩ (fun i σ Gg _ ⟨_,_,e⟩=>g_.of (e _ _ HD.f)) ?_ ?_⟩
   · rintro i v σ Gg hv ⟨Hk,rfl,qL⟩
     obtain⟨fn,_,rfl⟩:=jQ hv
     refine⟨_,rfl,d,πL.dx,_,rfl,qL _ _ yL.hd,(xQ _ _ _).2.2.2.1,_,rfl,_,rfl,d,jC Db st [],W4,st,fn,rfl,XL.same qL,fst,Sr,IL,fun h=>absurd (J2 _) h,fun _ r Gh xy sv Ax=>⟨L2.jK,fun e he=>?_⟩⟩
     obtain⟨vs1,hv1,ZA⟩:=Ax
     rw[FZ SE] at ZA
     cases ZA
     have wg:gg Gh (upd Gh e (.lst [])):=(gg.refl _).new he
     refine⟨_,⟨r,e,rfl,rfl⟩,eq_nil (wg _ _ hv1) b_,_,rfl,jU ?_⟩
     have OU:=(qL.trans xy).trans wg
     refine⟨_,rfl,d,πL.dx,_,rfl,OU _ _ yL.hd,(xQ _ _ _).2.2.2.2.1,_,rfl,_,rfl,d,jC Db st [],W4,st,fn,rfl,XL.same OU,fst,Sr,IL,fun h=>absurd (J2 _) h,fun _ c WU qs HC R4 Ou T3=>⟨L2.jK,fun e2 he2=>?_⟩⟩
     rw[JF SE] at T3
     cases T3
     have Mu:gg WU (upd WU e2 (.lst [])):=(gg.refl _).new he2
     exact⟨_,⟨c,e2,rfl,rfl⟩,eq_nil (Mu _ _ Ou) b_,_,rfl,jU ⟨_,rfl,(OU.trans HC).trans Mu⟩⟩
   · rintro σ Gg ⟨Hk,rfl,qL⟩
     exact⟨Hk,rfl,qL⟩
   rintro σ Gg ⟨Hk,rfl,qL⟩
   have Hv:=HD.same qL
   have W5:=XL.same qL
   have Ml:x∈(jC Db st []).held src:=by show x∈(if src=st then[] else Db.held src);rw[aak Zs];exact Tn
   refine⟨_,rfl,d,πL.dx,_,rfl,qL _ _ yL.hd,(Jt _ _ _).2.2.2.2.1,_,rfl,_,rfl,dr,_,_,_,rfl,rfl,g_.of Hv.r,iA (j:=0) (v:=V.str src) rfl rfl,_,rfl,dr,_,_,_,rfl,rfl,g_.of Hv.r,iA (j:=1) (v:=V.str x) rfl rfl,d,jC Db st [],W4,st,src,x,rfl,W5,IL,Fj _,fst,Su,fx,fun h=>absurd (J2 _) h,fun _ h=>absurd OP h,fun _ _ h=>absurd Ml h,fun _ _ _ cm2 Hm2 Gh SF SG SH OS Pu=>?_⟩
   rw[Sq (jC Db st []) J0 Ht SE] at SH Pu
   have WX:(jC Db st []).take st x=jC Db st zs:=by
     rw[vX,SE,List.nil_append,Sq (jC Db st []) J0 Ht SE,vY]
   rw[WX] at OS
   have My:mU W4 Gg Gh:=fun b o e n=>Pu b o (by rw[de (gc (SF _ _ e) SG)];exact SF _ _ e) n
   have J4:=Hv.D1 W5 My
   have OT:=(rp.same qL).D1 W5 My
   refine⟨_,rfl,cm2,du,zs,zs,rfl,SH,J4.u,?_⟩
   rw[VE (rfl:zs=zs)]
   refine⟨_,rfl,jU ?_⟩
   refine⟨_,rfl,_,rfl,_,rfl,bl,_,_,_,rfl,rfl,g_.of J4.b,iA (j:=2) rfl rfl,d,fs,jC Db st zs,W4,st,r9 ns,rfl,OS,I5,Sr,J2 zs,fst,J4.f,Sx,fun r2 W3 wg _ rep2=>?_⟩
   rw[eDv] at rep2
   exact⟨_,rfl,_,⟨r2,fr,rfl,rfl⟩,Rep.eq (rep2.mono (by decide)) ((OT.same wg).mono (by decide)),q _⟩
end
end PK
namespace TW
open PySem PySem.W L2 PK
abbrev S:=Str.ofString
abbrev ob:=Obj.mk
abbrev v(x:String)(t:Nat):Value:=.str (S x) t
abbrev r:=Value.ref
abbrev vi:=Value.int
abbrev i(n:Int):=Value.int n 0
abbrev vn:=Value.none
abbrev w:=Value.type
abbrev b:=Value.builtin
abbrev vl:=Value.bool
abbrev cl:=ClassData.mk
abbrev k:=@some Value
abbrev d(P:Params)(x:String)(t:Nat)(y:Value):DictEntry:=.mk (PyData.keyHash P (S x)) (v x t) y
noncomputable abbrev x:=top
noncomputable abbrev y(i j:Nat):=inClass (top i) j
abbrev n:=BT.node
abbrev z:=BT.nil
abbrev f(o:Obj):BT:=n o z z
abbrev of(c:String)(l:List Value):Obj:=ob (w c) none (.fields l.toArray) #[]
abbrev tp(l:List Value):Obj:=ob (w "tuple") none (.seq l.toArray 0) #[]
abbrev fl(l:List Value):Obj:=ob vn none (.fields l.toArray) #[]
abbrev l3(l:List (Int×Int×Addr)):Obj:=fl (l.flatMap fun(a,b,c)=>[i a,i b,r c])
abbrev fd(n q:Str)(st:Stmt)(g:Addr)(c:List (Str×Addr))(d kd doc pm:Value)(an:Option Addr)(co ct:Value)(b:Addr):FuncData:=⟨n,q,pT st,.stmts (mZ st),fO st,g,c,d,kd,doc,pm,an,co,ct,b⟩
abbrev fn(a b:String)(st:Stmt)(m:String)(t:Nat)(c:Addr):Obj:=ob (w "function") none (.func (fd (S a) (S b) st 3 [] vn vn vn (v m t) none (r c) vn 0)) #[]
abbrev fv(a b:String)(st:Stmt):Obj:=ob vn none (.func (fd (S a) (S b) st 0 [] vn vn vn vn none vn vn 0)) #[]
abbrev dt(l:List DictEntry)(c:Nat):Obj:=ob (w "dict") none (.dict l.toArray c) #[]
abbrev fr(l:List (Option Value)):Obj:=ob (w "frame") none .plain l.toArray
abbrev ty(c:ClassData)(l:List (Option Value)):Obj:=ob (w "type") none (.cls c) l.toArray
abbrev o0:Addr→Value|0=>vn|a+1=>r (a+1)
abbrev co(a b:String)(t:Nat)(l p q:Int)(c:Addr)(g:Int)(ys:List Addr)(u:Nat):Obj:=of "code" ([v a t,v b (t+1),v "/claim/cut.py" (t+2),i l,i p,i 0,i 0,i q,r c,vl true,i g]++ys.map o0++[i u,i l,v "/claim/cut.py" (u+1)])
noncomputable def g0(P:Params):List DictEntry:=[(d P "__doc__" 166 vn),(d P "__package__" 167 vn),(d P "__loader__" 168 (b "__main__.__loader__#opaque")),(d P "__spec__" 169 vn),(d P "__annotations__" 170 (r 6)),(d P "__builtins__" 171 (r 4)),(d P "__file__" 173 (v "/claim/cut.py" 172)),(d P "__cached__" 174 vn),(d P "_wall" 193 (r 21)),(d P "counts_with" 206 (r 28)),(d P "most_pairs" 212 (r 33)),(d P "place_from" 222 (r 40)),(d P "kept" 235 (r 47)),(d P "PatchError" 255 (r 57))]
noncomputable def g1(P:Params):List DictEntry:=g0 P++[(d P "BadName" 271 (r 70))]
noncomputable def g2(P:Params):List DictEntry:=g1 P++[(d P "NameTaken" 287 (r 82))]
noncomputable def g3(P:Params):List DictEntry:=g2 P++[(d P "NoStore" 303 (r 94))]
noncomputable def g4(P:Params):List DictEntry:=g3 P++[(d P "NoPatch" 319 (r 106))]
noncomputable def g5(P:Params):List DictEntry:=g4 P++[(d P "NoLine" 335 (r 118))]
noncomputable def g6(P:Params):List DictEntry:=g5 P++[(d P "Unsettled" 351 (r 130))]
noncomputable def g7(P:Params):List DictEntry:=g6 P++[(d P "Same" 367 (r 142))]
noncomputable def g8(P:Params):List DictEntry:=g7 P++[(d P "Leant" 383 (r 154))]
noncomputable def g9(P:Params):List DictEntry:=g8 P++[(d P "Line" 420 (r 173))]
noncomputable def ha(P:Params):List DictEntry:=g9 P++[(d P "Patch" 457 (r 194)),(d P "lines_named_by" 463 (r 203)),(d P "leans_straight_on" 469 (r 208)),(d P "live_patches" 479 (r 215)),(d P "lines_put" 489 (r 222)),(d P "standing_lines" 495 (r 227)),(d P "files_with_lines" 501 (r 232))]
noncomputable def hb(P:Params):List DictEntry:=ha P++[(d P "straight_ahead" 510 (r 239)),(d P "joined" 520 (r 246)),(d P "all_ahead" 526 (r 251)),(d P "first_free" 534 (r 258)),(d P "row_of" 540 (r 263))]
noncomputable def hc(P:Params):List DictEntry:=hb P++[(d P "Sight" 604 (r 308)),(d P "NAME_SIGNS" 608 (v "abcdefghijklmnopqrstuvwxyz0123456789" 607)),(d P "LONGEST_NAME" 610 (vi 12 609))]
noncomputable def hd(P:Params):List DictEntry:=hc P++[(d P "check_name" 618 (r 319)),(d P "check_places" 628 (r 326)),(d P "kept_behind" 638 (r 333)),(d P "new_lines" 652 (r 340)),(d P "changing_patch" 658 (r 345))]
noncomputable def he(P:Params):List DictEntry:=hd P++[(d P "Desk" 861 (r 502))]
noncomputable def hf(P:Params):List DictEntry:=he P++[(d P "_law_cell_at" 871 (r 513)),(d P "_law_draw" 881 (r 520)),(d P "_law_name" 895 (r 527)),(d P "_law_text" 901 (r 532)),(d P "_law_edit" 915 (r 539)),(d P "_law_deed" 921 (r 544)),(d P "_law_desk" 927 (r 549)),(d P "_law_names_are" 936 (r 556)),(d P "_law_seen" 942 (r 561)),(d P "_law_leant" 951 (r 568)),(d P "law" 957 (r 573))]
noncomputable def aa:Obj:=tp []
noncomputable def ab:Obj:=fl []
noncomputable def ac:Obj:=of "builtin_function_or_method" [(b "type.__prepare__"),(w "type")]
noncomputable def ad:Obj:=tp [(r 57)]
noncomputable def ae:Obj:=of "code" [(v "<module>" 182),(v "<module>" 183),(v "/claim/cut.py" 184),(i 1),(i 0),(i 0),(i 0),(i 0),(r 11),(vl false),(i 181),(r 12),vn,vn,vn,vn,(i 185),(i 1),(v "/claim/cut.py" 186)]
noncomputable def af:Obj:=fr [(k (r 13)),(k (r 3)),(k (r 3)),none,(k (v "__main__" 164)),none,(k (r 0))]
noncomputable def ag:Obj:=fn "kept" "kept" (x 5) "patchkin.differ" 194 46
noncomputable def ah:Obj:=co "place_from" "place_from" 213 18 3 3 34 181 [35,0,36,37,38] 220
noncomputable def ai:Obj:=co "counts_with" "counts_with" 196 5 3 3 22 181 [23,0,24,25,26] 204
noncomputable def aj:Obj:=tp [(v "old" 226),(v "new" 227),(v "table" 228),(v "pairs" 229),(v "start" 230),(v "first" 231),(v "second" 232)]
noncomputable def ak:Obj:=tp [(v "k" 190)]
noncomputable def al:Obj:=fn "most_pairs" "most_pairs" (x 3) "patchkin.differ" 194 32
noncomputable def am:Obj:=fn "_wall" "_wall" (x 0) "__main__" 164 20
noncomputable def an:Obj:=co "most_pairs" "most_pairs" 207 13 2 3 29 181 [30,0,0,0,31] 210
noncomputable def ao:Obj:=tp [(w "ValueError")]
noncomputable def ap:Obj:=tp [(v "text" 199),(v "new" 200),(v "below" 201),(v "counts" 202),(v "second" 203)]
noncomputable def aq:Obj:=fn "place_from" "place_from" (x 4) "patchkin.differ" 194 39
noncomputable def ar(P:Params):Obj:=dt [(d P "__module__" 245 (v "patchkin.errors" 236)),(d P "__firstlineno__" 249 (vi 34 248)),(d P "__static_attributes__" 250 (r 55)),(d P "__weakref__" 252 (r 58)),(d P "__doc__" 253 vn)] 3
noncomputable def au:Obj:=co "_wall" "_wall" 187 1 1 3 15 181 [16,0,17,18,19] 191
noncomputable def av:Obj:=tp [(v "texts" 216),(v "text" 217),(v "start" 218),(v "place" 219)]
noncomputable def aw:Obj:=fn "counts_with" "counts_with" (x 2) "patchkin.differ" 194 27
noncomputable def ax:Obj:=of "getset_descriptor" [(v "__weakref__" 251),(r 57),(b "ExceptionGroup.__weakref__"),vn]
noncomputable def ay:Obj:=co "kept" "kept" 223 23 2 3 41 181 [42,0,43,44,45] 233
noncomputable def az:Obj:=fv "most_pairs" "most_pairs" (x 3)
noncomputable def aA:Obj:=fv "_wall" "_wall" (x 0)
noncomputable def aB:Obj:=of "super" [(r 57),(r 57),(r 57)]
noncomputable def aC(P:Params):Obj:=dt [(d P "__module__" 263 (v "patchkin.errors" 236)),(d P "__firstlineno__" 267 (vi 36 266)),(d P "__static_attributes__" 268 (r 68)),(d P "__doc__" 269 vn)] 2
noncomputable def aD:Obj:=of "code" [(v "PatchError" 240),(v "PatchError" 241),(v "/claim/cut.py" 242),(i 34),(i 0),(i 0),(i 0),(i 0),(r 51),(vl false),(i 181),(r 52),vn,vn,vn,vn,(i 243),(i 34),(v "/claim/cut.py" 244)]
noncomputable def aE:Obj:=fv "kept" "kept" (x 5)
noncomputable def aF:Obj:=of "builtin_function_or_method" [(b "object.__init_subclass__"),(r 57)]
noncomputable def aG(P:Params):Obj:=dt [(d P "__module__" 245 (v "patchkin.errors" 236)),(d P "__qualname__" 247 (v "PatchError" 246)),(d P "__firstlineno__" 249 (vi 34 248)),(d P "__static_attributes__" 250 (r 55))] 4
noncomputable def aH:Obj:=fv "counts_with" "counts_with" (x 2)
noncomputable def aI:Obj:=fv "place_from" "place_from" (x 4)
noncomputable def aJ:Obj:=ty (cl (S "BadName") [(r 57)] [(r 70),(r 57),(w "ValueError"),(w "Exception"),(w "BaseException"),(w "object")] 69 (S "BadName") true [] [] false none false) [(k (r 61)),none,(k (v "BadName" 256)),(k (v "BadName" 264)),(k (b "ValueError.__new__")),(k (vl true))]
noncomputable def aK:Obj:=fr [(k (r 53)),(k (r 3)),(k (r 50)),none,(k (v "patchkin.errors" 236)),none,(k (r 0))]
noncomputable def aL(P:Params):Obj:=dt [(d P "__module__" 263 (v "patchkin.errors" 236)),(d P "__qualname__" 265 (v "BadName" 264)),(d P "__firstlineno__" 267 (vi 36 266)),(d P "__static_attributes__" 268 (r 68))] 4
noncomputable def aM:Obj:=of "super" [(r 70),(r 70),(r 70)]
noncomputable def aN:Obj:=fr [(k (r 66)),(k (r 3)),(k (r 63)),none,(k (v "patchkin.errors" 236)),none,(k (r 0))]
noncomputable def aO(P:Params):Obj:=dt [(d P "__module__" 279 (v "patchkin.errors" 236)),(d P "__firstlineno__" 283 (vi 38 282)),(d P "__static_attributes__" 284 (r 80)),(d P "__doc__" 285 vn)] 2
noncomputable def aP:Obj:=of "builtin_function_or_method" [(b "object.__init_subclass__"),(r 70)]
noncomputable def aQ:Obj:=of "code" [(v "BadName" 258),(v "BadName" 259),(v "/claim/cut.py" 260),(i 36),(i 0),(i 0),(i 0),(i 0),(r 64),(vl false),(i 181),(r 65),vn,vn,vn,vn,(i 261),(i 36),(v "/claim/cut.py" 262)]
noncomputable def aR:Obj:=ty (cl (S "NameTaken") [(r 57)] [(r 82),(r 57),(w "ValueError"),(w "Exception"),(w "BaseException"),(w "object")] 81 (S "NameTaken") true [] [] false none false) [(k (r 73)),none,(k (v "NameTaken" 272)),(k (v "NameTaken" 280)),(k (b "ValueError.__new__")),(k (vl true))]
noncomputable def aS:Obj:=fr [(k (r 78)),(k (r 3)),(k (r 75)),none,(k (v "patchkin.errors" 236)),none,(k (r 0))]
noncomputable def aT:Obj:=of "super" [(r 82),(r 82),(r 82)]
noncomputable def aU(P:Params):Obj:=dt [(d P "__module__" 279 (v "patchkin.errors" 236)),(d P "__qualname__" 281 (v "NameTaken" 280)),(d P "__firstlineno__" 283 (vi 38 282)),(d P "__static_attributes__" 284 (r 80))] 4
noncomputable def aV(P:Params):Obj:=dt [(d P "__module__" 295 (v "patchkin.errors" 236)),(d P "__firstlineno__" 299 (vi 40 298)),(d P "__static_attributes__" 300 (r 92)),(d P "__doc__" 301 vn)] 2
noncomputable def aW:Obj:=of "builtin_function_or_method" [(b "object.__init_subclass__"),(r 82)]
noncomputable def aX:Obj:=of "code" [(v "NameTaken" 274),(v "NameTaken" 275),(v "/claim/cut.py" 276),(i 38),(i 0),(i 0),(i 0),(i 0),(r 76),(vl false),(i 181),(r 77),vn,vn,vn,vn,(i 277),(i 38),(v "/claim/cut.py" 278)]
noncomputable def aY:Obj:=ty (cl (S "NoStore") [(r 57)] [(r 94),(r 57),(w "ValueError"),(w "Exception"),(w "BaseException"),(w "object")] 93 (S "NoStore") true [] [] false none false) [(k (r 85)),none,(k (v "NoStore" 288)),(k (v "NoStore" 296)),(k (b "ValueError.__new__")),(k (vl true))]
noncomputable def aZ:Obj:=of "super" [(r 94),(r 94),(r 94)]
noncomputable def a0(P:Params):Obj:=dt [(d P "__module__" 295 (v "patchkin.errors" 236)),(d P "__qualname__" 297 (v "NoStore" 296)),(d P "__firstlineno__" 299 (vi 40 298)),(d P "__static_attributes__" 300 (r 92))] 4
noncomputable def a1:Obj:=fr [(k (r 90)),(k (r 3)),(k (r 87)),none,(k (v "patchkin.errors" 236)),none,(k (r 0))]
noncomputable def a2(P:Params):Obj:=dt [(d P "__module__" 311 (v "patchkin.errors" 236)),(d P "__firstlineno__" 315 (vi 42 314)),(d P "__static_attributes__" 316 (r 104)),(d P "__doc__" 317 vn)] 2
noncomputable def a3:Obj:=of "builtin_function_or_method" [(b "object.__init_subclass__"),(r 94)]
noncomputable def a4:Obj:=ty (cl (S "NoPatch") [(r 57)] [(r 106),(r 57),(w "ValueError"),(w "Exception"),(w "BaseException"),(w "object")] 105 (S "NoPatch") true [] [] false none false) [(k (r 97)),none,(k (v "NoPatch" 304)),(k (v "NoPatch" 312)),(k (b "ValueError.__new__")),(k (vl true))]
noncomputable def a5:Obj:=of "code" [(v "NoStore" 290),(v "NoStore" 291),(v "/claim/cut.py" 292),(i 40),(i 0),(i 0),(i 0),(i 0),(r 88),(vl false),(i 181),(r 89),vn,vn,vn,vn,(i 293),(i 40),(v "/claim/cut.py" 294)]
noncomputable def a6:Obj:=fr [(k (r 102)),(k (r 3)),(k (r 99)),none,(k (v "patchkin.errors" 236)),none,(k (r 0))]
noncomputable def a7(P:Params):Obj:=dt [(d P "__module__" 311 (v "patchkin.errors" 236)),(d P "__qualname__" 313 (v "NoPatch" 312)),(d P "__firstlineno__" 315 (vi 42 314)),(d P "__static_attributes__" 316 (r 104))] 4
noncomputable def a8:Obj:=of "super" [(r 106),(r 106),(r 106)]
noncomputable def a9(P:Params):Obj:=dt [(d P "__module__" 327 (v "patchkin.errors" 236)),(d P "__firstlineno__" 331 (vi 44 330)),(d P "__static_attributes__" 332 (r 116)),(d P "__doc__" 333 vn)] 2
noncomputable def ba:Obj:=of "builtin_function_or_method" [(b "object.__init_subclass__"),(r 106)]
noncomputable def bb:Obj:=of "code" [(v "NoPatch" 306),(v "NoPatch" 307),(v "/claim/cut.py" 308),(i 42),(i 0),(i 0),(i 0),(i 0),(r 100),(vl false),(i 181),(r 101),vn,vn,vn,vn,(i 309),(i 42),(v "/claim/cut.py" 310)]
noncomputable def bc:Obj:=ty (cl (S "NoLine") [(r 57)] [(r 118),(r 57),(w "ValueError"),(w "Exception"),(w "BaseException"),(w "object")] 117 (S "NoLine") true [] [] false none false) [(k (r 109)),none,(k (v "NoLine" 320)),(k (v "NoLine" 328)),(k (b "ValueError.__new__")),(k (vl true))]
noncomputable def bd(P:Params):Obj:=dt [(d P "__module__" 327 (v "patchkin.errors" 236)),(d P "__qualname__" 329 (v "NoLine" 328)),(d P "__firstlineno__" 331 (vi 44 330)),(d P "__static_attributes__" 332 (r 116))] 4
noncomputable def be:Obj:=of "super" [(r 118),(r 118),(r 118)]
noncomputable def bf:Obj:=fr [(k (r 114)),(k (r 3)),(k (r 111)),none,(k (v "patchkin.errors" 236)),none,(k (r 0))]
noncomputable def bg(P:Params):Obj:=dt [(d P "__module__" 343 (v "patchkin.errors" 236)),(d P "__firstlineno__" 347 (vi 46 346)),(d P "__static_attributes__" 348 (r 128)),(d P "__doc__" 349 vn)] 2
noncomputable def bh:Obj:=of "builtin_function_or_method" [(b "object.__init_subclass__"),(r 118)]
noncomputable def bi:Obj:=ty (cl (S "Unsettled") [(r 57)] [(r 130),(r 57),(w "ValueError"),(w "Exception"),(w "BaseException"),(w "object")] 129 (S "Unsettled") true [] [] false none false) [(k (r 121)),none,(k (v "Unsettled" 336)),(k (v "Unsettled" 344)),(k (b "ValueError.__new__")),(k (vl true))]
noncomputable def bj:Obj:=of "code" [(v "NoLine" 322),(v "NoLine" 323),(v "/claim/cut.py" 324),(i 44),(i 0),(i 0),(i 0),(i 0),(r 112),(vl false),(i 181),(r 113),vn,vn,vn,vn,(i 325),(i 44),(v "/claim/cut.py" 326)]
noncomputable def bk:Obj:=fr [(k (r 126)),(k (r 3)),(k (r 123)),none,(k (v "patchkin.errors" 236)),none,(k (r 0))]
noncomputable def bl:Obj:=of "super" [(r 130),(r 130),(r 130)]
noncomputable def bm(P:Params):Obj:=dt [(d P "__module__" 343 (v "patchkin.errors" 236)),(d P "__qualname__" 345 (v "Unsettled" 344)),(d P "__firstlineno__" 347 (vi 46 346)),(d P "__static_attributes__" 348 (r 128))] 4
noncomputable def bn(P:Params):Obj:=dt [(d P "__module__" 359 (v "patchkin.errors" 236)),(d P "__firstlineno__" 363 (vi 48 362)),(d P "__static_attributes__" 364 (r 140)),(d P "__doc__" 365 vn)] 2
noncomputable def bo:Obj:=of "builtin_function_or_method" [(b "object.__init_subclass__"),(r 130)]
noncomputable def bp:Obj:=ty (cl (S "Same") [(r 57)] [(r 142),(r 57),(w "ValueError"),(w "Exception"),(w "BaseException"),(w "object")] 141 (S "Same") true [] [] false none false) [(k (r 133)),none,(k (v "Same" 352)),(k (v "Same" 360)),(k (b "ValueError.__new__")),(k (vl true))]
noncomputable def bq:Obj:=of "code" [(v "Unsettled" 338),(v "Unsettled" 339),(v "/claim/cut.py" 340),(i 46),(i 0),(i 0),(i 0),(i 0),(r 124),(vl false),(i 181),(r 125),vn,vn,vn,vn,(i 341),(i 46),(v "/claim/cut.py" 342)]
noncomputable def br:Obj:=of "super" [(r 142),(r 142),(r 142)]
noncomputable def bs(P:Params):Obj:=dt [(d P "__module__" 359 (v "patchkin.errors" 236)),(d P "__qualname__" 361 (v "Same" 360)),(d P "__firstlineno__" 363 (vi 48 362)),(d P "__static_attributes__" 364 (r 140))] 4
noncomputable def bt:Obj:=fr [(k (r 138)),(k (r 3)),(k (r 135)),none,(k (v "patchkin.errors" 236)),none,(k (r 0))]
noncomputable def bu:Obj:=ty (cl (S "PatchError") [(w "ValueError")] [(r 57),(w "ValueError"),(w "Exception"),(w "BaseException"),(w "object")] 56 (S "PatchError") true [] [(r 70),(r 82),(r 94),(r 106),(r 118),(r 130),(r 142),(r 154)] false none false) [(k (r 48)),none,(k (v "PatchError" 238)),(k (v "PatchError" 246)),(k (b "ValueError.__new__")),(k (vl true))]
noncomputable def bv(P:Params):Obj:=dt [(d P "__module__" 375 (v "patchkin.errors" 236)),(d P "__firstlineno__" 379 (vi 50 378)),(d P "__static_attributes__" 380 (r 152)),(d P "__doc__" 381 vn)] 2
noncomputable def bw:Obj:=of "builtin_function_or_method" [(b "object.__init_subclass__"),(r 142)]
noncomputable def bx:Obj:=of "code" [(v "Same" 354),(v "Same" 355),(v "/claim/cut.py" 356),(i 48),(i 0),(i 0),(i 0),(i 0),(r 136),(vl false),(i 181),(r 137),vn,vn,vn,vn,(i 357),(i 48),(v "/claim/cut.py" 358)]
noncomputable def bz:Obj:=ty (cl (S "Leant") [(r 57)] [(r 154),(r 57),(w "ValueError"),(w "Exception"),(w "BaseException"),(w "object")] 153 (S "Leant") true [] [] false none false) [(k (r 145)),none,(k (v "Leant" 368)),(k (v "Leant" 376)),(k (b "ValueError.__new__")),(k (vl true))]
noncomputable def bA:Obj:=of "getset_descriptor" [(v "__weakref__" 416),(r 173),(b "ExceptionGroup.__weakref__"),vn]
noncomputable def bB:Obj:=fr [(k (r 150)),(k (r 3)),(k (r 147)),none,(k (v "patchkin.errors" 236)),none,(k (r 0))]
noncomputable def bC(P:Params):Obj:=dt [(d P "__module__" 375 (v "patchkin.errors" 236)),(d P "__qualname__" 377 (v "Leant" 376)),(d P "__firstlineno__" 379 (vi 50 378)),(d P "__static_attributes__" 380 (r 152))] 4
noncomputable def bD:Obj:=tp [(v "lower_name" 409),(v "name" 410),(v "text" 411),(v "upper_name" 412)]
noncomputable def bE:Obj:=of "super" [(r 154),(r 154),(r 154)]
noncomputable def bF:Obj:=co "__init__" "Line.__init__" 398 55 5 3 164 181 [165,0,166,167,168] 406
noncomputable def bG:Obj:=ty (cl (S "Line") [(w "object")] [(r 173),(w "object")] 172 (S "Line") true [] [] false none false) [none,none,(k (v "Line" 386)),(k (v "Line" 394)),(k (b "object.__new__")),(k (vl true))]
noncomputable def bH(P:Params):Obj:=dt [(d P "__module__" 393 (v "patchkin.order" 384)),(d P "__firstlineno__" 397 (vi 53 396)),(d P "__init__" 408 (r 170)),(d P "__static_attributes__" 413 (r 171)),(d P "__dict__" 415 (r 174)),(d P "__weakref__" 417 (r 175)),(d P "__doc__" 418 vn)] 4
noncomputable def bI:Obj:=of "builtin_function_or_method" [(b "object.__init_subclass__"),(r 154)]
noncomputable def bJ:Obj:=fn "__init__" "Line.__init__" (y 17 0) "patchkin.order" 384 169
noncomputable def bK:Obj:=tp [(v "self" 401),(v "name" 402),(v "text" 403),(v "upper_name" 404),(v "lower_name" 405)]
noncomputable def bL:Obj:=of "code" [(v "Leant" 370),(v "Leant" 371),(v "/claim/cut.py" 372),(i 50),(i 0),(i 0),(i 0),(i 0),(r 148),(vl false),(i 181),(r 149),vn,vn,vn,vn,(i 373),(i 50),(v "/claim/cut.py" 374)]
noncomputable def bM:Obj:=of "getset_descriptor" [(v "__dict__" 414),(r 173),(b "function.__dict__"),(b "function.__dict__#set")]
noncomputable def bN:Obj:=fn "__init__" "Patch.__init__" (y 18 0) "patchkin.order" 384 190
noncomputable def bO(P:Params):Obj:=dt [(d P "__module__" 393 (v "patchkin.order" 384)),(d P "__qualname__" 395 (v "Line" 394)),(d P "__firstlineno__" 397 (vi 53 396)),(d P "__init__" 408 (r 170)),(d P "__static_attributes__" 413 (r 171))] 5
noncomputable def bP:Obj:=co "leans_straight_on" "leans_straight_on" 464 74 1 3 204 181 [205,0,0,0,206] 467
noncomputable def bQ:Obj:=co "files_with_lines" "files_with_lines" 496 101 1 3 228 181 [229,0,0,0,230] 499
noncomputable def bR:Obj:=fn "live_patches" "live_patches" (x 21) "patchkin.order" 384 214
noncomputable def bS:Obj:=of "getset_descriptor" [(v "__dict__" 451),(r 194),(b "function.__dict__"),(b "function.__dict__#set")]
noncomputable def bT:Obj:=fr [(k (r 162)),(k (r 3)),(k (r 159)),none,(k (v "patchkin.order" 384)),none,(k (r 0))]
noncomputable def bU:Obj:=fn "standing_lines" "standing_lines" (x 23) "patchkin.order" 384 226
noncomputable def bV:Obj:=tp [(v "patches" 473),(v "taken_back" 474),(v "live" 475),(v "patch" 476)]
noncomputable def bW:Obj:=fn "lines_named_by" "lines_named_by" (x 19) "patchkin.order" 384 202
noncomputable def bX:Obj:=tp [(v "self" 436),(v "name" 437),(v "file" 438),(v "puts" 439),(v "cuts" 440),(v "other" 441)]
noncomputable def bY(P:Params):Obj:=dt [(d P "__module__" 428 (v "patchkin.order" 384)),(d P "__firstlineno__" 432 (vi 60 431)),(d P "__init__" 444 (r 191)),(d P "__static_attributes__" 450 (r 192)),(d P "__dict__" 452 (r 195)),(d P "__weakref__" 454 (r 196)),(d P "__doc__" 455 vn)] 4
noncomputable def bZ:Obj:=l3 [(55,4,169)]
noncomputable def b0:Obj:=of "builtin_function_or_method" [(b "object.__init_subclass__"),(r 173)]
noncomputable def b1:Obj:=co "lines_put" "lines_put" 480 88 2 3 216 181 [217,0,218,219,220] 487
noncomputable def b2:Obj:=tp [(v "cuts" 445),(v "file" 446),(v "name" 447),(v "other" 448),(v "puts" 449)]
noncomputable def b3:Obj:=fn "leans_straight_on" "leans_straight_on" (x 20) "patchkin.order" 384 207
noncomputable def b4:Obj:=of "super" [(r 173),(r 173),(r 173)]
noncomputable def b5:Obj:=fv "__init__" "Line.__init__" (y 17 0)
noncomputable def b6:Obj:=fn "files_with_lines" "files_with_lines" (x 24) "patchkin.order" 384 231
noncomputable def b7:Obj:=of "getset_descriptor" [(v "__weakref__" 453),(r 194),(b "ExceptionGroup.__weakref__"),vn]
noncomputable def b8:Obj:=ty (cl (S "Patch") [(w "object")] [(r 194),(w "object")] 193 (S "Patch") true [] [] false none false) [none,none,(k (v "Patch" 421)),(k (v "Patch" 429)),(k (b "object.__new__")),(k (vl true))]
noncomputable def b9:Obj:=of "code" [(v "Line" 388),(v "Line" 389),(v "/claim/cut.py" 390),(i 53),(i 0),(i 0),(i 0),(i 0),(r 160),(vl false),(i 181),(r 161),vn,vn,vn,vn,(i 391),(i 53),(v "/claim/cut.py" 392)]
noncomputable def ca:Obj:=co "standing_lines" "standing_lines" 490 94 2 3 223 181 [224,0,0,0,225] 493
noncomputable def cb:Obj:=co "lines_named_by" "lines_named_by" 458 68 1 3 199 181 [200,0,0,0,201] 461
noncomputable def cc:Obj:=tp [(v "patches" 483),(v "file" 484),(v "lines" 485),(v "patch" 486)]
noncomputable def cd:Obj:=co "live_patches" "live_patches" 470 79 1 3 209 181 [210,0,211,212,213] 477
noncomputable def ce:Obj:=fn "lines_put" "lines_put" (x 22) "patchkin.order" 384 221
noncomputable def cf:Obj:=co "__init__" "Patch.__init__" 433 62 6 3 185 181 [186,0,187,188,189] 442
noncomputable def cg:Obj:=fn "straight_ahead" "straight_ahead" (x 25) "patchkin.order" 384 238
noncomputable def ch:Obj:=fn "row_of" "row_of" (x 29) "patchkin.order" 384 262
noncomputable def ci:Obj:=of "code" [(v "Patch" 423),(v "Patch" 424),(v "/claim/cut.py" 425),(i 60),(i 0),(i 0),(i 0),(i 0),(r 181),(vl false),(i 181),(r 182),vn,vn,vn,vn,(i 426),(i 60),(v "/claim/cut.py" 427)]
noncomputable def cj:Obj:=tp [(v "lines" 505),(v "straight" 506),(v "line" 507)]
noncomputable def ck:Obj:=fn "all_ahead" "all_ahead" (x 27) "patchkin.order" 384 250
noncomputable def cm:Obj:=co "first_free" "first_free" 527 136 1 3 252 181 [253,0,254,255,256] 532
noncomputable def cn:Obj:=fv "standing_lines" "standing_lines" (x 23)
noncomputable def cp:Obj:=fv "lines_named_by" "lines_named_by" (x 19)
noncomputable def cq:Obj:=of "super" [(r 194),(r 194),(r 194)]
noncomputable def cr:Obj:=fv "live_patches" "live_patches" (x 21)
noncomputable def cs:Obj:=co "joined" "joined" 511 114 2 3 240 181 [241,0,242,243,244] 518
noncomputable def ct:Obj:=fv "__init__" "Patch.__init__" (y 18 0)
noncomputable def cu:Obj:=fr [(k (r 183)),(k (r 3)),(k (r 180)),none,(k (v "patchkin.order" 384)),none,(k (r 0))]
noncomputable def cv(P:Params):Obj:=dt [(d P "__module__" 428 (v "patchkin.order" 384)),(d P "__qualname__" 430 (v "Patch" 429)),(d P "__firstlineno__" 432 (vi 60 431)),(d P "__init__" 444 (r 191)),(d P "__static_attributes__" 450 (r 192))] 5
noncomputable def cw:Obj:=fv "lines_put" "lines_put" (x 22)
noncomputable def cx:Obj:=fn "first_free" "first_free" (x 28) "patchkin.order" 384 257
noncomputable def cy:Obj:=tp [(v "names" 514),(v "ahead" 515),(v "found" 516),(v "name" 517)]
noncomputable def cz:Obj:=co "all_ahead" "all_ahead" 521 120 1 3 247 181 [248,0,0,0,249] 524
noncomputable def cA:Obj:=co "row_of" "row_of" 535 141 2 3 259 181 [260,0,0,0,261] 538
noncomputable def cB:Obj:=of "builtin_function_or_method" [(b "object.__init_subclass__"),(r 194)]
noncomputable def cC:Obj:=fv "files_with_lines" "files_with_lines" (x 24)
noncomputable def cD:Obj:=l3 [(62,4,190)]
noncomputable def cE:Obj:=fn "joined" "joined" (x 26) "patchkin.order" 384 245
noncomputable def cF:Obj:=fv "leans_straight_on" "leans_straight_on" (x 20)
noncomputable def cG:Obj:=co "straight_ahead" "straight_ahead" 502 104 1 3 233 181 [234,0,235,236,237] 508
noncomputable def cH:Obj:=tp [(v "waiting" 530),(v "name" 531)]
noncomputable def cI:Obj:=tp [(v "self" 574),(v "pairs" 575),(v "first" 576),(v "second" 577)]
noncomputable def cJ:Obj:=fn "quarrelling" "Sight.quarrelling" (y 30 2) "patchkin.order" 384 290
noncomputable def cK(P:Params):Obj:=dt [(d P "__module__" 548 (v "patchkin.order" 384)),(d P "__firstlineno__" 552 (vi 156 551)),(d P "__init__" 561 (r 277)),(d P "is_ahead" 570 (r 284)),(d P "quarrelling" 580 (r 291)),(d P "most_from" 587 (r 298)),(d P "staying" 594 (r 305)),(d P "__static_attributes__" 597 (r 306)),(d P "__dict__" 599 (r 309)),(d P "__weakref__" 601 (r 310)),(d P "__doc__" 602 vn)] 4
noncomputable def cL:Obj:=co "is_ahead" "Sight.is_ahead" 562 162 3 3 278 181 [279,0,280,281,282] 568
noncomputable def cM:Obj:=tp [(v "self" 556),(v "patches" 557),(v "file" 558)]
noncomputable def cN:Obj:=fn "staying" "Sight.staying" (y 30 4) "patchkin.order" 384 304
noncomputable def cO:Obj:=co "most_from" "Sight.most_from" 581 173 1 3 292 181 [293,0,294,295,296] 585
noncomputable def cP:Obj:=fv "all_ahead" "all_ahead" (x 27)
noncomputable def cQ:Obj:=fv "row_of" "row_of" (x 29)
noncomputable def cR:Obj:=fn "__init__" "Sight.__init__" (y 30 0) "patchkin.order" 384 276
noncomputable def cS:Obj:=of "getset_descriptor" [(v "__dict__" 598),(r 308),(b "function.__dict__"),(b "function.__dict__#set")]
noncomputable def cT:Obj:=tp [(v "self" 591)]
noncomputable def cU:Obj:=fv "straight_ahead" "straight_ahead" (x 25)
noncomputable def cV:Obj:=fv "first_free" "first_free" (x 28)
noncomputable def cW:Obj:=co "staying" "Sight.staying" 588 176 1 3 299 181 [300,0,301,302,303] 592
noncomputable def cX:Obj:=tp [(v "self" 565),(v "first" 566),(v "second" 567)]
noncomputable def cY:Obj:=co "__init__" "Sight.__init__" 553 158 3 3 271 181 [272,0,273,274,275] 559
noncomputable def cZ:Obj:=ty (cl (S "Sight") [(w "object")] [(r 308),(w "object")] 307 (S "Sight") true [] [] false none false) [none,none,(k (v "Sight" 541)),(k (v "Sight" 549)),(k (b "object.__new__")),(k (vl true))]
noncomputable def c0:Obj:=fv "joined" "joined" (x 26)
noncomputable def c1:Obj:=fn "is_ahead" "Sight.is_ahead" (y 30 1) "patchkin.order" 384 283
noncomputable def c2:Obj:=co "quarrelling" "Sight.quarrelling" 571 165 1 3 285 181 [286,0,287,288,289] 578
noncomputable def c3:Obj:=tp [(v "ahead" 595),(v "lines" 596)]
noncomputable def c4:Obj:=fn "most_from" "Sight.most_from" (y 30 3) "patchkin.order" 384 297
noncomputable def c5:Obj:=tp [(v "self" 584)]
noncomputable def c6:Obj:=of "getset_descriptor" [(v "__weakref__" 600),(r 308),(b "ExceptionGroup.__weakref__"),vn]
noncomputable def c7:Obj:=fv "staying" "Sight.staying" (y 30 4)
noncomputable def c8:Obj:=of "super" [(r 308),(r 308),(r 308)]
noncomputable def c9:Obj:=fv "__init__" "Sight.__init__" (y 30 0)
noncomputable def da:Obj:=fv "quarrelling" "Sight.quarrelling" (y 30 2)
noncomputable def db:Obj:=of "code" [(v "Sight" 543),(v "Sight" 544),(v "/claim/cut.py" 545),(i 156),(i 0),(i 0),(i 0),(i 0),(r 267),(vl false),(i 181),(r 268),vn,vn,vn,vn,(i 546),(i 156),(v "/claim/cut.py" 547)]
noncomputable def dc:Obj:=fv "most_from" "Sight.most_from" (y 30 3)
noncomputable def df:Obj:=of "builtin_function_or_method" [(b "object.__init_subclass__"),(r 308)]
noncomputable def dg:Obj:=l3 [(158,4,276),(162,4,283),(165,4,290),(173,4,297),(176,4,304)]
noncomputable def dh(P:Params):Obj:=dt [(d P "__module__" 548 (v "patchkin.order" 384)),(d P "__qualname__" 550 (v "Sight" 549)),(d P "__firstlineno__" 552 (vi 156 551)),(d P "__init__" 561 (r 277)),(d P "is_ahead" 570 (r 284)),(d P "quarrelling" 580 (r 291)),(d P "most_from" 587 (r 298)),(d P "staying" 594 (r 305)),(d P "__static_attributes__" 597 (r 306))] 9
noncomputable def di:Obj:=fv "is_ahead" "Sight.is_ahead" (y 30 1)
noncomputable def dj:Obj:=fr [(k (r 269)),(k (r 3)),(k (r 266)),none,(k (v "patchkin.order" 384)),none,(k (r 0))]
noncomputable def dk:Obj:=fn "check_name" "check_name" (x 34) "patchkin.desk" 605 318
noncomputable def dl:Obj:=co "new_lines" "new_lines" 639 198 3 3 334 181 [335,0,336,337,338] 650
noncomputable def dm:Obj:=tp [(v "name" 614),(v "sign" 615)]
noncomputable def dn:Obj:=tp [(v "kept_names" 632),(v "size" 633),(v "behind" 634),(v "place" 635)]
noncomputable def dp:Obj:=fn "changing_patch" "changing_patch" (x 38) "patchkin.desk" 605 344
noncomputable def dq:Obj:=co "check_places" "check_places" 619 187 2 3 320 181 [321,0,322,323,324] 626
noncomputable def dr:Obj:=fn "kept_behind" "kept_behind" (x 36) "patchkin.desk" 605 332
noncomputable def ds:Obj:=tp [(v "patch" 642),(v "texts" 643),(v "kept_names" 644),(v "behind" 645),(v "lines" 646),(v "upper_name" 647),(v "place" 648),(v "text" 649)]
noncomputable def du:Obj:=co "changing_patch" "changing_patch" 653 209 4 3 341 181 [342,0,0,0,343] 656
noncomputable def dv:Obj:=fn "new_lines" "new_lines" (x 37) "patchkin.desk" 605 339
noncomputable def dw:Obj:=co "kept_behind" "kept_behind" 629 193 2 3 327 181 [328,0,329,330,331] 636
noncomputable def dx:Obj:=tp [(v "places" 622),(v "size" 623),(v "least" 624),(v "place" 625)]
noncomputable def dy:Obj:=fn "check_places" "check_places" (x 35) "patchkin.desk" 605 325
noncomputable def dz:Obj:=co "check_name" "check_name" 611 181 1 3 313 181 [314,0,315,316,317] 616
noncomputable def dA:Obj:=fn "__init__" "Desk.__init__" (y 39 0) "patchkin.desk" 605 358
noncomputable def dB:Obj:=fn "take" "Desk.take" (y 39 8) "patchkin.desk" 605 406
noncomputable def dC:Obj:=fv "changing_patch" "changing_patch" (x 38)
noncomputable def dD:Obj:=fn "leans" "Desk.leans" (y 39 10) "patchkin.desk" 605 418
noncomputable def dE:Obj:=tp [(v "self" 674)]
noncomputable def dF:Obj:=fn "cut" "Desk.cut" (y 39 6) "patchkin.desk" 605 394
noncomputable def dG:Obj:=fv "kept_behind" "kept_behind" (x 36)
noncomputable def dH:Obj:=co "patches" "Desk.patches" 693 233 1 3 374 181 [375,0,376,377,378] 697
noncomputable def dI:Obj:=fn "has" "Desk.has" (y 39 4) "patchkin.desk" 605 384
noncomputable def dJ:Obj:=co "back" "Desk.back" 718 259 4 3 396 181 [397,0,398,399,400] 725
noncomputable def dK:Obj:=tp [(v "self" 689)]
noncomputable def dL:Obj:=co "told" "Desk.told" 750 287 2 3 420 181 [421,0,422,423,424] 755
noncomputable def dM:Obj:=co "record" "Desk.record" 706 240 5 3 386 181 [387,0,0,0,388] 709
noncomputable def dN:Obj:=fn "stores" "Desk.stores" (y 39 2) "patchkin.desk" 605 372
noncomputable def dO:Obj:=co "begin" "Desk.begin" 678 224 2 3 360 181 [361,0,362,363,364] 683
noncomputable def dP:Obj:=co "drop" "Desk.drop" 734 275 3 3 408 181 [409,0,410,411,412] 741
noncomputable def dQ:Obj:=fv "check_name" "check_name" (x 34)
noncomputable def dR:Obj:=co "has" "Desk.has" 700 236 2 3 381 181 [382,0,0,0,383] 703
noncomputable def dS:Obj:=tp [(v "self" 696)]
noncomputable def dT:Obj:=fv "check_places" "check_places" (x 35)
noncomputable def dU:Obj:=co "stores" "Desk.stores" 686 230 1 3 367 181 [368,0,369,370,371] 690
noncomputable def dV:Obj:=fn "patches" "Desk.patches" (y 39 3) "patchkin.desk" 605 379
noncomputable def dW:Obj:=co "leans" "Desk.leans" 744 283 2 3 415 181 [416,0,0,0,417] 747
noncomputable def dX:Obj:=fn "back" "Desk.back" (y 39 7) "patchkin.desk" 605 401
noncomputable def dY:Obj:=fv "new_lines" "new_lines" (x 37)
noncomputable def dZ:Obj:=co "cut" "Desk.cut" 712 250 5 3 391 181 [392,0,0,0,393] 715
noncomputable def d0:Obj:=tp [(v "self" 681),(v "store" 682)]
noncomputable def d1:Obj:=tp [(v "self" 737),(v "store" 738),(v "patch" 739),(v "name" 740)]
noncomputable def d2:Obj:=fn "record" "Desk.record" (y 39 5) "patchkin.desk" 605 389
noncomputable def d3:Obj:=tp [(v "self" 753),(v "patch" 754)]
noncomputable def d4:Obj:=co "__init__" "Desk.__init__" 671 219 1 3 353 181 [354,0,355,356,357] 675
noncomputable def d5:Obj:=co "take" "Desk.take" 728 265 4 3 403 181 [404,0,0,0,405] 731
noncomputable def d6:Obj:=tp [(v "self" 721),(v "store" 722),(v "patch" 723),(v "other" 724)]
noncomputable def d7:Obj:=fn "begin" "Desk.begin" (y 39 1) "patchkin.desk" 605 365
noncomputable def d8:Obj:=fn "drop" "Desk.drop" (y 39 9) "patchkin.desk" 605 413
noncomputable def d9:Obj:=fv "has" "Desk.has" (y 39 4)
noncomputable def ea:Obj:=of "code" [(v "Desk" 661),(v "Desk" 662),(v "/claim/cut.py" 663),(i 217),(i 0),(i 0),(i 0),(i 0),(r 349),(vl false),(i 181),(r 350),vn,vn,vn,vn,(i 664),(i 217),(v "/claim/cut.py" 665)]
noncomputable def eb:Obj:=co "sight_of" "Desk.sight_of" 796 305 3 3 458 181 [459,0,460,461,462] 802
noncomputable def ec:Obj:=tp [(v "self" 843),(v "store" 844),(v "patch" 845),(v "needs" 846),(v "name" 847)]
noncomputable def ed:Obj:=fn "check_store" "Desk.check_store" (y 39 18) "patchkin.desk" 605 470
noncomputable def ee:Obj:=of "getset_descriptor" [(v "__dict__" 855),(r 502),(b "function.__dict__"),(b "function.__dict__#set")]
noncomputable def ef:Obj:=co "stay" "Desk.stay" 781 299 3 3 446 181 [447,0,448,449,450] 787
noncomputable def eg:Obj:=tp [(v "self" 808),(v "store" 809)]
noncomputable def eh:Obj:=fv "stores" "Desk.stores" (y 39 2)
noncomputable def ei:Obj:=fn "keep" "Desk.keep" (y 39 22) "patchkin.desk" 605 498
noncomputable def ej:Obj:=co "check_new" "Desk.check_new" 830 320 3 3 486 181 [487,0,488,489,490] 837
noncomputable def ek:Obj:=fv "leans" "Desk.leans" (y 39 10)
noncomputable def el:Obj:=tp [(v "self" 824),(v "store" 825),(v "patch" 826)]
noncomputable def em:Obj:=fn "files" "Desk.files" (y 39 12) "patchkin.desk" 605 432
noncomputable def en:Obj:=fv "cut" "Desk.cut" (y 39 6)
noncomputable def eo:Obj:=fn "patches_of" "Desk.patches_of" (y 39 16) "patchkin.desk" 605 456
noncomputable def ep:Obj:=tp [(v "self" 775),(v "store" 776),(v "file" 777)]
noncomputable def eq:Obj:=fv "__init__" "Desk.__init__" (y 39 0)
noncomputable def er:Obj:=fn "check_held" "Desk.check_held" (y 39 20) "patchkin.desk" 605 484
noncomputable def es:Obj:=fv "take" "Desk.take" (y 39 8)
noncomputable def et:Obj:=co "row" "Desk.row" 766 293 3 3 434 181 [435,0,0,0,436] 769
noncomputable def eu(P:Params):Obj:=dt [(d P "__module__" 666 (v "patchkin.desk" 605)),(d P "__firstlineno__" 670 (vi 217 669)),(d P "__init__" 677 (r 359)),(d P "begin" 685 (r 366)),(d P "stores" 692 (r 373)),(d P "patches" 699 (r 380)),(d P "has" 705 (r 385)),(d P "record" 711 (r 390)),(d P "cut" 717 (r 395)),(d P "back" 727 (r 402)),(d P "take" 733 (r 407)),(d P "drop" 743 (r 414)),(d P "leans" 749 (r 419)),(d P "told" 757 (r 426)),(d P "files" 765 (r 433)),(d P "row" 771 (r 438)),(d P "quarrels" 780 (r 445)),(d P "stay" 789 (r 452)),(d P "patches_of" 795 (r 457)),(d P "sight_of" 804 (r 464)),(d P "check_store" 812 (r 471)),(d P "check_made" 820 (r 478)),(d P "check_held" 829 (r 485)),(d P "check_new" 839 (r 492)),(d P "keep" 850 (r 499)),(d P "__static_attributes__" 854 (r 500)),(d P "__dict__" 856 (r 503)),(d P "__weakref__" 858 (r 504)),(d P "__doc__" 859 vn)] 4
noncomputable def ev:Obj:=tp [(v "self" 761),(v "store" 762)]
noncomputable def ew:Obj:=co "check_made" "Desk.check_made" 813 312 2 3 472 181 [473,0,474,475,476] 818
noncomputable def ex:Obj:=fn "quarrels" "Desk.quarrels" (y 39 14) "patchkin.desk" 605 444
noncomputable def ey:Obj:=tp [(v "self" 784),(v "store" 785),(v "file" 786)]
noncomputable def ez:Obj:=fr [(k (r 351)),(k (r 3)),(k (r 348)),none,(k (v "patchkin.desk" 605)),none,(k (r 0))]
noncomputable def eA:Obj:=fv "back" "Desk.back" (y 39 7)
noncomputable def eB:Obj:=fn "sight_of" "Desk.sight_of" (y 39 17) "patchkin.desk" 605 463
noncomputable def eC:Obj:=co "files" "Desk.files" 758 290 2 3 427 181 [428,0,429,430,431] 763
noncomputable def eD:Obj:=co "patches_of" "Desk.patches_of" 790 302 2 3 453 181 [454,0,0,0,455] 793
noncomputable def eE:Obj:=fv "told" "Desk.told" (y 39 11)
noncomputable def eF:Obj:=tp [(v "self" 833),(v "patch" 834),(v "files" 835),(v "name" 836)]
noncomputable def eG:Obj:=of "getset_descriptor" [(v "__weakref__" 857),(r 502),(b "ExceptionGroup.__weakref__"),vn]
noncomputable def eH:Obj:=fv "record" "Desk.record" (y 39 5)
noncomputable def eI:Obj:=fn "stay" "Desk.stay" (y 39 15) "patchkin.desk" 605 451
noncomputable def eJ:Obj:=co "check_held" "Desk.check_held" 821 316 3 3 479 181 [480,0,481,482,483] 827
noncomputable def eK:Obj:=tp [(v "held" 851),(v "made" 852),(v "needs" 853)]
noncomputable def eL:Obj:=tp [(v "self" 799),(v "store" 800),(v "file" 801)]
noncomputable def eM:Obj:=fv "begin" "Desk.begin" (y 39 1)
noncomputable def eN:Obj:=fn "check_new" "Desk.check_new" (y 39 21) "patchkin.desk" 605 491
noncomputable def eO:Obj:=fv "drop" "Desk.drop" (y 39 9)
noncomputable def eP:Obj:=co "quarrels" "Desk.quarrels" 772 296 3 3 439 181 [440,0,441,442,443] 778
noncomputable def eQ:Obj:=co "keep" "Desk.keep" 840 326 3 3 493 181 [494,0,495,496,497] 848
noncomputable def eR:Obj:=fn "told" "Desk.told" (y 39 11) "patchkin.desk" 605 425
noncomputable def eS:Obj:=tp [(v "self" 816),(v "patch" 817)]
noncomputable def eT:Obj:=fv "patches" "Desk.patches" (y 39 3)
noncomputable def eU:Obj:=co "check_store" "Desk.check_store" 805 308 2 3 465 181 [466,0,467,468,469] 810
noncomputable def eV:Obj:=fn "row" "Desk.row" (y 39 13) "patchkin.desk" 605 437
noncomputable def eW:Obj:=ty (cl (S "Desk") [(w "object")] [(r 502),(w "object")] 501 (S "Desk") true [] [] false none false) [none,none,(k (v "Desk" 659)),(k (v "Desk" 667)),(k (b "object.__new__")),(k (vl true))]
noncomputable def eX:Obj:=fn "check_made" "Desk.check_made" (y 39 19) "patchkin.desk" 605 477
noncomputable def eY(P:Params):Obj:=dt ((d P "__name__" 165 (v "law_patchkin_k12_whole_none_can_be_spared" 862))::hf P) 56
noncomputable def eZ:Obj:=co "_law_deed" "_law_deed" 916 379 6 3 540 181 [541,0,0,0,542] 919
noncomputable def e0:Obj:=fn "_law_name" "_law_name" (x 43) "law_patchkin_k12_whole_none_can_be_spared" 862 526
noncomputable def e1:Obj:=fv "files" "Desk.files" (y 39 12)
noncomputable def e2:Obj:=co "_law_draw" "_law_draw" 872 339 3 3 514 181 [515,0,516,517,518] 879
noncomputable def e3:Obj:=fv "patches_of" "Desk.patches_of" (y 39 16)
noncomputable def e4:Obj:=tp [(v "texts" 905),(v "cell" 906),(v "at" 907),(v "line" 908),(v "more" 909),(v "way" 910),(v "out" 911),(v "turned" 912)]
noncomputable def e5:Obj:=co "_law_leant" "_law_leant" 943 419 3 3 562 181 [563,0,564,565,566] 949
noncomputable def e6:Obj:=fv "check_held" "Desk.check_held" (y 39 20)
noncomputable def e7:Obj:=co "_law_text" "_law_text" 896 355 1 3 528 181 [529,0,0,0,530] 899
noncomputable def e8:Obj:=tp [(v "cell" 885),(v "k" 886),(v "signs" 887),(v "size" 888),(v "base" 889),(v "far" 890),(v "found" 891),(v "j" 892)]
noncomputable def e9:Obj:=co "_law_names_are" "_law_names_are" 928 410 2 3 550 181 [551,0,552,553,554] 934
noncomputable def fa:Obj:=fn "_law_edit" "_law_edit" (x 45) "law_patchkin_k12_whole_none_can_be_spared" 862 538
noncomputable def fb:Obj:=fv "quarrels" "Desk.quarrels" (y 39 14)
noncomputable def fc:Obj:=fn "_law_cell_at" "_law_cell_at" (x 41) "law_patchkin_k12_whole_none_can_be_spared" 862 512
noncomputable def fe:Obj:=fn "_law_seen" "_law_seen" (x 49) "law_patchkin_k12_whole_none_can_be_spared" 862 560
noncomputable def ff:Obj:=fv "keep" "Desk.keep" (y 39 22)
noncomputable def fg:Obj:=of "super" [(r 502),(r 502),(r 502)]
noncomputable def fh:Obj:=fn "_law_desk" "_law_desk" (x 47) "law_patchkin_k12_whole_none_can_be_spared" 862 548
noncomputable def fi:Obj:=fv "check_store" "Desk.check_store" (y 39 18)
noncomputable def fj:Obj:=fn "law" "law" (x 51) "law_patchkin_k12_whole_none_can_be_spared" 862 572
noncomputable def fk:Obj:=tp [(v "script" 867),(v "k" 868)]
noncomputable def fm:Obj:=co "_law_cell_at" "_law_cell_at" 864 335 2 3 507 181 [508,0,509,510,511] 869
noncomputable def fo:Obj:=fn "_law_deed" "_law_deed" (x 46) "law_patchkin_k12_whole_none_can_be_spared" 862 543
noncomputable def fp:Obj:=co "_law_seen" "_law_seen" 937 417 3 3 557 181 [558,0,0,0,559] 940
noncomputable def fq:Obj:=fn "_law_draw" "_law_draw" (x 42) "law_patchkin_k12_whole_none_can_be_spared" 862 519
noncomputable def fs:Obj:=tp [(v "found" 931),(v "due" 932),(v "name" 933)]
noncomputable def ft:Obj:=fn "_law_leant" "_law_leant" (x 50) "law_patchkin_k12_whole_none_can_be_spared" 862 567
noncomputable def fu:Obj:=tp [(v "cell" 875),(v "k" 876),(v "bound" 877),(v "stir" 878)]
noncomputable def fw:Obj:=co "_law_desk" "_law_desk" 922 398 4 3 545 181 [546,0,0,0,547] 925
noncomputable def fx:Obj:=fn "_law_text" "_law_text" (x 44) "law_patchkin_k12_whole_none_can_be_spared" 862 531
noncomputable def fy:Obj:=tp [(v "desk" 946),(v "store" 947),(v "name" 948)]
noncomputable def fz:Obj:=fv "row" "Desk.row" (y 39 13)
noncomputable def fA:Obj:=fn "_law_names_are" "_law_names_are" (x 48) "law_patchkin_k12_whole_none_can_be_spared" 862 555
noncomputable def fB(P:Params):Obj:=dt [(d P "__module__" 666 (v "patchkin.desk" 605)),(d P "__qualname__" 668 (v "Desk" 667)),(d P "__firstlineno__" 670 (vi 217 669)),(d P "__init__" 677 (r 359)),(d P "begin" 685 (r 366)),(d P "stores" 692 (r 373)),(d P "patches" 699 (r 380)),(d P "has" 705 (r 385)),(d P "record" 711 (r 390)),(d P "cut" 717 (r 395)),(d P "back" 727 (r 402)),(d P "take" 733 (r 407)),(d P "drop" 743 (r 414)),(d P "leans" 749 (r 419)),(d P "told" 757 (r 426)),(d P "files" 765 (r 433)),(d P "row" 771 (r 438)),(d P "quarrels" 780 (r 445)),(d P "stay" 789 (r 452)),(d P "patches_of" 795 (r 457)),(d P "sight_of" 804 (r 464)),(d P "check_store" 812 (r 471)),(d P "check_made" 820 (r 478)),(d P "check_held" 829 (r 485)),(d P "check_new" 839 (r 492)),(d P "keep" 850 (r 499)),(d P "__static_attributes__" 854 (r 500))] 27
noncomputable def fC:Obj:=fv "check_made" "Desk.check_made" (y 39 19)
noncomputable def fD:Obj:=co "law" "law" 952 425 1 3 569 181 [570,0,0,0,571] 955
noncomputable def fE:Obj:=fv "stay" "Desk.stay" (y 39 15)
noncomputable def fF:Obj:=fv "check_new" "Desk.check_new" (y 39 21)
noncomputable def fG:Obj:=co "_law_edit" "_law_edit" 902 363 2 3 533 181 [534,0,535,536,537] 913
noncomputable def fH:Obj:=of "builtin_function_or_method" [(b "object.__init_subclass__"),(r 502)]
noncomputable def fI:Obj:=co "_law_name" "_law_name" 882 343 2 3 521 181 [522,0,523,524,525] 893
noncomputable def fJ:Obj:=fv "sight_of" "Desk.sight_of" (y 39 17)
noncomputable def fK:Obj:=l3 [(219,4,358),(224,4,365),(230,4,372),(233,4,379),(236,4,384),(240,4,389),(250,4,394),(259,4,401),(265,4,406),(275,4,413),(283,4,418),(287,4,425),(290,4,432),(293,4,437),(296,4,444),(299,4,451),(302,4,456),(305,4,463),(308,4,470),(312,4,477),(316,4,484),(320,4,491),(326,4,498)]
noncomputable def fL:Obj:=fv "_law_cell_at" "_law_cell_at" (x 41)
noncomputable def fM:Obj:=fv "_law_seen" "_law_seen" (x 49)
noncomputable def fN:Obj:=fv "_law_desk" "_law_desk" (x 47)
noncomputable def fP:Obj:=fv "_law_edit" "_law_edit" (x 45)
noncomputable def fQ:Obj:=fv "_law_name" "_law_name" (x 43)
noncomputable def fR:Obj:=l3 [(1,0,20),(5,0,27),(13,0,32),(18,0,39),(23,0,46),(34,0,53),(36,0,66),(38,0,78),(40,0,90),(42,0,102),(44,0,114),(46,0,126),(48,0,138),(50,0,150),(53,0,162),(60,0,183),(68,0,202),(74,0,207),(79,0,214),(88,0,221),(94,0,226),(101,0,231),(104,0,238),(114,0,245),(120,0,250),(136,0,257),(141,0,262),(156,0,269),(181,0,318),(187,0,325),(193,0,332),(198,0,339),(209,0,344),(217,0,351),(335,0,512),(339,0,519),(343,0,526),(355,0,531),(363,0,538),(379,0,543),(398,0,548),(410,0,555),(417,0,560),(419,0,567),(425,0,572)]
noncomputable def fS:Obj:=fv "_law_text" "_law_text" (x 44)
noncomputable def fT:Obj:=fv "_law_names_are" "_law_names_are" (x 48)
noncomputable def fU:Obj:=fv "_law_draw" "_law_draw" (x 42)
noncomputable def fV:Obj:=fv "_law_leant" "_law_leant" (x 50)
noncomputable def fW:Obj:=fv "_law_deed" "_law_deed" (x 46)
noncomputable def fX(P:Params):Obj:=dt ((d P "__name__" 165 (v "patchkin.desk" 605))::hd P) 44
noncomputable def fY:Obj:=l3 [(1,0,20),(5,0,27),(13,0,32),(18,0,39),(23,0,46),(34,0,53),(36,0,66),(38,0,78),(40,0,90),(42,0,102),(44,0,114),(46,0,126),(48,0,138),(50,0,150),(53,0,162),(60,0,183),(68,0,202),(74,0,207),(79,0,214),(88,0,221),(94,0,226),(101,0,231),(104,0,238),(114,0,245),(120,0,250),(136,0,257),(141,0,262),(156,0,269),(181,0,318),(187,0,325),(193,0,332),(198,0,339),(209,0,344),(217,0,351)]
noncomputable def fZ(P:Params):Obj:=dt ((d P "__name__" 165 (v "patchkin.desk" 605))::hc P) 39
noncomputable def f1(P:Params):Obj:=dt ((d P "__name__" 165 (v "patchkin.order" 384))::g9 P) 24
noncomputable def f3(P:Params):Obj:=dt ((d P "__name__" 165 (v "patchkin.order" 384))::ha P) 31
noncomputable def f5(P:Params):Obj:=dt ((d P "__name__" 165 (v "patchkin.errors" 236))::g0 P) 15
noncomputable def f8(P:Params):Obj:=dt ((d P "__name__" 165 (v "patchkin.errors" 236))::g3 P) 18
noncomputable def gb(P:Params):Obj:=dt ((d P "__name__" 165 (v "patchkin.errors" 236))::g7 P) 22
noncomputable def ge(P:Params):Obj:=dt ((d P "__name__" 165 (v "patchkin.errors" 236))::g2 P) 17
noncomputable def gh(P:Params):Obj:=dt ((d P "__name__" 165 (v "patchkin.order" 384))::hb P) 36
noncomputable def gj(P:Params):Obj:=dt ((d P "__name__" 165 (v "patchkin.order" 384))::g8 P) 23
noncomputable def gl(P:Params):Obj:=dt ((d P "__name__" 165 (v "patchkin.errors" 236))::g1 P) 16
noncomputable def gp(P:Params):Obj:=dt ((d P "__name__" 165 (v "patchkin.errors" 236))::g6 P) 21
noncomputable def gu(P:Params):Obj:=dt ((d P "__name__" 165 (v "patchkin.desk" 605))::he P) 45
noncomputable def gv(P:Params):Obj:=dt ((d P "__name__" 165 (v "patchkin.errors" 236))::g5 P) 20
noncomputable def gy(P:Params):Obj:=dt ((d P "__name__" 165 (v "patchkin.errors" 236))::g4 P) 19
noncomputable def gB:BT:=n aa (f aa) z
noncomputable def gC:BT:=n ab (f ac) z
noncomputable def gD:BT:=n ab (f ab) z
noncomputable def gE:BT:=n aa (f aa) (f aa)
noncomputable def gF:BT:=n aa (f ab) z
noncomputable def gG:BT:=n aa (f ab) (f aa)
noncomputable def gH:BT:=n ab (f ab) (f ab)
noncomputable def gI:BT:=n aq (n aP (f aa) (f ab)) (n aa (f b5) (f b6))
noncomputable def gJ:BT:=n aA (n ab (f aN) z) (n aa (f aT) z)
noncomputable def gK:BT:=n ab (n an (f aa) (f a3)) (n ao (f aa) z)
noncomputable def gL:BT:=n au (n av (f aa) z) (n ab (f aW) z)
noncomputable def gM:BT:=n ab (n ay (f aX) z) (n ac (f aY) z)
noncomputable def gN(P:Params):BT:=n aa (n az (n (aL P) (f bk) z) (f aZ)) (n ag (n aS (f br) z) (f (bd P)))
noncomputable def gO(P:Params):BT:=n aA (n ab (n aN (f bl) z) (f (a7 P))) (n aa (f aT) (f bf))
noncomputable def gP(P:Params):BT:=n ak (n al (n ab (f (bg P)) z) (f ad)) (n ac (f (aO P)) (f ab))
noncomputable def gQ(P:Params):BT:=n aa (n aE (n ab (f (bn P)) z) (f ad)) (n ad (f (aV P)) (f ab))
noncomputable def gR:BT:=n ab (n an gB (f a3)) (n ao (n aa (f bw) z) (f aa))
noncomputable def gS:BT:=n au (n av (n aa (f bo) z) (f aa)) (n ab (f aW) (f aa))
noncomputable def gT(P:Params):BT:=n aa (n aa (n aQ (f bi) z) (f ac)) (n (aG P) (f aR) (f bj))
noncomputable def gU:BT:=n ab (n ay (n aX (f bp) z) (f ac)) (n ac (f aY) (f bq))
noncomputable def gV(P:Params):BT:=n am (n aa (f (aC P)) (f ab)) (n aD (f ad) (f (a9 P)))
noncomputable def gW:BT:=n aa (n aI (f aJ) (f bb)) (n aK (f ac) (f bc))
noncomputable def gX:BT:=n aa (f aa) (f ab)
noncomputable def gY:BT:=n aw (n aa (f aa) (f ba)) (n aF (f aa) z)
noncomputable def gZ:BT:=n aH (n ab (f ac) (f a4)) (n ax (f a5) z)
noncomputable def _root_.PySem.W.Fast.tw16607438864337699708:Program:=PySem.Challenge.pw_patchkin_k12_whole_none_can_be_spared
theorem _root_.PySem.W.Fast.te16607438864337699708:Fast.tw16607438864337699708=Fast.tw16607438864337699708:=rfl
noncomputable def _root_.PySem.W.Fast.tw3541745963115622438:Params→BT:=fun P=>n (boot_o_0 P) (n (boot_o_1 P) (n (fZ P) (n (boot_o_7 P) (n aa (n az (n (aL P) (n bk (f aa) z) (f bN)) (n aZ (n (bO P) (f cI) z) (f aa))) (n ag (n aS (n br (f aa) z) (f bP)) (n (bd P) (n bA (f c7) z) (f cg)))) (n ab (n ah (n aM (n (bs P) (f ch) z) (f aa)) (n a6 gB (f bQ))) (n aa (n (a0 P) (n bB (f ab) z) (f bR)) (n be (n ci (f c8) z) (f aa))))) (n aa (n aA (n ab (n aN (n bl (f aa) z) (f bS)) (n (a7 P) (n bT (f cJ) z) (f bU))) (n aa (n aT (n (bC P) (f c9) z) (f bV)) (n bf (n ac (f (cK P)) z) (f aa)))) (n ai (n aj (n (aU P) (n bt (f aa) z) (f bW)) (n a8 (n bD (f aa) z) (f cj))) (n aB (n a1 (n bE (f cL) z) (f aa)) (n (bm P) (f bX) (f ck)))))) (n (boot_o_5 P) (n (boot_o_9 P) (n ak (n al (n ab (n (bg P) (f cm) z) (f (bY P))) (n ad (n bZ (f da) z) (f cn))) (n ac (n (aO P) (n ad (f cM) z) (f aa)) (n ab (n b0 (f cN) z) (f ab)))) (n aa (n aa (n ad gC (f cp)) (n (a2 P) (n bF (f cO) z) (f aa))) (n bu (n ab (n (bv P) (f aa) z) (f ab)) (n ad (f aa) (f cP))))) (n ae (n am (n aa (n (aC P) (n ad (f cQ) z) (f cq)) (n ab gD (f ab))) (n aD (n ad (n ab (f cR) z) (f cr)) (n (a9 P) (n aa (f cS) z) (f cs)))) (n aa (n aE (n ab (n (bn P) (f db) z) (f ab)) (n ad (n bG (f cT) z) (f cU))) (n ad (n (aV P) gB (f b1)) (n ab (f ct) (f ab))))))) (n (boot_o_2 P) (n (boot_o_4 P) (n (boot_o_8 P) (n ab (n an (n aa (n aa (f cV) z) (f b2)) (n a3 gB (f ab))) (n ao (n aa (n bw (f ab) z) (f b3)) (n aa (n b4 (f cW) z) (f aa)))) (n ap (n aq (n aP gB (f ab)) (n aa (n b5 (f dc) z) (f b6))) (n (ar P) (n aa (n aa (f cX) z) (f aa)) (n bh (n cu (f df) z) (f ab))))) (n (l3 [(1,0,20),(5,0,27),(13,0,32),(18,0,39),(23,0,46),(34,0,53),(36,0,66),(38,0,78),(40,0,90),(42,0,102),(44,0,114),(46,0,126),(48,0,138),(50,0,150),(53,0,162),(60,0,183),(68,0,202),(74,0,207),(79,0,214),(88,0,221),(94,0,226),(101,0,231),(104,0,238),(114,0,245),(120,0,250),(136,0,257),(141,0,262),(156,0,269)]) (n au (n av (n aa (n bo (f ab) z) (f b7)) (n aa gB (f aa))) (n ab (n aW (n aa (f cY) z) (f aa)) (n aa (n (cv P) (f cZ) z) (f c0)))) (n aw (n aa (n aa (n aa (f dg) z) (f aa)) (n ba (n (bH P) (f ab) z) (f aa))) (n aF (n aa (n bI (f c1) z) (f cw)) gE)))) (n (boot_o_6 P) (n (boot_o_10 P) (n aa (n aa (n aQ (n bi (f cx) z) (f b8)) (n ac (n b9 (f c2) z) (f ca))) (n (aG P) (n aR (n ac (f aa) z) (f ab)) (n bj (n aa (f c3) z) (f cy)))) (n aH (n ab (n ac (n bx (f (dh P)) z) (f cb)) (n a4 (n bJ (f c4) z) (f ab))) (n ax (n a5 (n bz (f di) z) (f cc)) (n ac (f ab) (f cz))))) (n af (n aa (n aI (n aJ (n ac (f cA) z) (f cB)) (n bb (n bK (f c5) z) (f cC))) (n aK (n ac (n bL (f aa) z) (f cd)) (n bc (n cD (f c6) z) (f cE)))) (n ab (n ay (n aX (n bp (f dj) z) (f cF)) (n ac (n bM (f aa) z) (f cG))) (n ac (n aY (n ac (f ab) z) (f ce)) (n bq (f cf) (f cH)))))))
theorem _root_.PySem.W.Fast.te3541745963115622438:Fast.tw3541745963115622438=Fast.tw3541745963115622438:=rfl
noncomputable def _root_.PySem.W.Fast.tw12019559563380244427:Params→BT:=fun P=>n (boot_o_0 P) (n (boot_o_1 P) (n (f1 P) (n (boot_o_7 P) (n aa (n az (n (aL P) (f bk) z) (n aZ (f (bO P)) z)) (n ag (n aS (f br) z) (n (bd P) (f bA) z))) (n ab (n ah (n aM (f (bs P)) z) (n a6 (f aa) z)) (n aa (n (a0 P) (f bB) z) (f be)))) (n aa (n aA (n ab (n aN (f bl) z) (n (a7 P) (f bT) z)) (n aa (n aT (f (bC P)) z) (f bf))) (n ai (n aj (n (aU P) (f bt) z) (n a8 (f bD) z)) (n aB (n a1 (f bE) z) (f (bm P)))))) (n (boot_o_5 P) (n (boot_o_9 P) (n ak (n al (n ab (f (bg P)) z) (n ad (f bZ) z)) (n ac (n (aO P) (f ad) z) (n ab (f b0) z))) (n aa (n aa (n ad (f ab) z) (n (a2 P) (f bF) z)) (n bu (n ab (f (bv P)) z) (f ad)))) (n ae (n am (n aa (n (aC P) (f ad) z) gD) (n aD (n ad (f ab) z) (f (a9 P)))) (n aa (n aE (n ab (f (bn P)) z) (n ad (f bG) z)) (n ad (n (aV P) (f aa) z) (f ab)))))) (n (boot_o_2 P) (n (boot_o_4 P) (n (boot_o_8 P) (n ab (n an gB (n a3 (f aa) z)) (n ao (n aa (f bw) z) (n aa (f b4) z))) (n ap (n aq (n aP (f aa) z) (n aa (f b5) z)) (n (ar P) gB (f bh)))) (n (l3 [(1,0,20),(5,0,27),(13,0,32),(18,0,39),(23,0,46),(34,0,53),(36,0,66),(38,0,78),(40,0,90),(42,0,102),(44,0,114),(46,0,126),(48,0,138),(50,0,150),(53,0,162)]) (n au (n av (n aa (f bo) z) gB) (n ab (n aW (f aa) z) (f aa))) (n aw (n aa gB (n ba (f (bH P)) z)) (n aF (n aa (f bI) z) (f aa))))) (n (boot_o_6 P) (n (boot_o_10 P) (n aa (n aa (n aQ (f bi) z) (n ac (f b9) z)) (n (aG P) (n aR (f ac) z) (f bj))) (n aH (n ab (n ac (f bx) z) (n a4 (f bJ) z)) (n ax (n a5 (f bz) z) (f ac)))) (n af (n aa (n aI (n aJ (f ac) z) (n bb (f bK) z)) (n aK (n ac (f bL) z) (f bc))) (n ab (n ay (n aX (f bp) z) (n ac (f bM) z)) (n ac (n aY (f ac) z) (f bq))))))
theorem _root_.PySem.W.Fast.te12019559563380244427:Fast.tw12019559563380244427=Fast.tw12019559563380244427:=rfl
noncomputable def _root_.PySem.W.Fast.tw2416337538143141709:Params→BT:=fun P=>n (boot_o_0 P) (n (boot_o_1 P) (n (eY P) (n (boot_o_7 P) (n aa (n az (n (aL P) (n bk (n aa (f fL) z) (f d9)) (n bN (f dk) (f ab))) (n aZ (n (bO P) (n cI (f eZ) z) (f aa)) (n aa (f ea) (f aa)))) (n ag (n aS (n br (n aa (f e0) z) (f aa)) (n bP (f ab) (f eb))) (n (bd P) (n bA (n c7 (f fM) z) (f e1)) (n cg (f aa) (f ec))))) (n ab (n ah (n aM (n (bs P) (n ch (f e2) z) (f aa)) (n aa (f aa) (f e3))) (n a6 (n aa gF (f aa)) (n bQ (f dA) (f ab)))) (n aa (n (a0 P) (n bB (n ab (f e4) z) (f dB)) (n bR (f dC) (f ed))) (n be (n ci (n c8 (f e5) z) (f aa)) (n aa (f ab) (f ee)))))) (n aa (n aA (n ab (n aN (n bl gF (f ab)) (n bS (f aa) (f ef))) (n (a7 P) (n bT (n cJ (f fN) z) (f dD)) (n bU (f dE) (f e6)))) (n aa (n aT (n (bC P) (n c9 (f e7) z) (f aa)) (n bV (f dl) (f eg))) (n bf (n ac (n (cK P) (f ab) z) (f ab)) (n aa (f eh) (f ei))))) (n ai (n aj (n (aU P) (n bt (n aa (f e8) z) (f dF)) (n bW (f dG) (f ab))) (n a8 (n bD (n aa (f e9) z) (f aa)) (n cj (f aa) (f ej)))) (n aB (n a1 (n bE (n cL (f fa) z) (f aa)) (n aa (f ac) (f aa))) (n (bm P) (n bX (n dm (f (fv "law" "law" (x 51))) z) (f fb)) (n ck (f dH) (f aa))))))) (n (boot_o_5 P) (n (boot_o_9 P) (n ak (n al (n ab (n (bg P) (n cm (f fc) z) (f dI)) (n (bY P) (f ab) (f aa))) (n ad (n bZ (n da (f aa) z) (f ek)) (n cn (f aa) (f el)))) (n ac (n (aO P) (n ad (n cM (f ab) z) (f dJ)) gE) (n ab (n b0 (n cN (f fe) z) (f em)) (n ab (f dK) (f ff))))) (n aa (n aa (n ad (n ab (n ac (f aa) z) (f en)) (n cp (f dn) (f eo))) (n (a2 P) (n bF (n cO (f aa) z) (f dL)) gG)) (n bu (n ab (n (bv P) (n aa (f fP) z) (f ab)) (n ab (f dp) (f ab))) (n ad (n aa gB (f ep)) (n cP (f aa) (f fg)))))) (n ae (n am (n aa (n (aC P) (n ad (n cQ (f aa) z) (f dM)) (n cq (f dq) (f aa))) (n ab (n ab (n ab (f fh) z) (f ab)) (n ab (f eq) (f er)))) (n aD (n ad (n ab (n cR (f aa) z) (f es)) (n cr (f aa) (f fi))) (n (a9 P) (n aa (n cS (f aa) z) (f et)) (n cs (f dN) (f (eu P)))))) (n aa (n aE (n ab (n (bn P) (n db (f fQ) z) (f ab)) (n ab (f dr) (f aa))) (n ad (n bG (n cT (f aa) z) (f ev)) (n cU (f dO) (f aa)))) (n ad (n (aV P) (n aa gF (f dP)) (n b1 (f aa) (f ew))) (n ab (n ct (n dQ (f fj) z) (f ex)) (n ab (f aa) (f fk)))))))) (n (boot_o_2 P) (n (boot_o_4 P) (n (boot_o_8 P) (n ab (n an (n aa (n aa (n cV (f fm) z) (f dR)) (n b2 (f aa) (f ey))) (n a3 (n aa (n aa (f fo) z) (f ab)) (n ab (f ez) (f ab)))) (n ao (n aa (n bw (n ab (f aa) z) (f eA)) (n b3 (f ds) (f eB))) (n aa (n b4 (n cW (f fp) z) (f eC)) gG))) (n ap (n aq (n aP (n aa (n aa (f fq) z) (f ab)) (n ab (f ab) (f eD))) (n aa (n b5 (n dc (f fs) z) (f eE)) (n b6 (f aa) (f eF)))) (n (ar P) (n aa (n aa (n cX (f aa) z) (f aa)) (n aa (f du) (f aa))) (n bh (n cu (n df (f ft) z) (f ab)) (n ab (f dS) (f eG)))))) (n fR (n au (n av (n aa (n bo (n ab (f fu) z) (f eH)) (n b7 (f dT) (f eI))) (n aa (n aa (n aa (f fw) z) (f aa)) (n aa (f aa) (f eJ)))) (n ab (n aW (n aa (n cY (f fx) z) (f ab)) (n aa (f dv) (f aa))) (n aa (n (cv P) (n cZ (f fy) z) (f fz)) (n c0 (f dU) (f eK))))) (n aw (n aa (n aa (n aa (n dg (f aa) z) (f aa)) (n aa (f dw) (f eL))) (n ba (n (bH P) (n ab (f fA) z) (f ab)) (n aa (f eM) (f eN)))) (n aF (n aa (n bI (n c1 (f aa) z) (f eO)) (n cw (f (fB P)) (f fC))) (n aa (n aa (n aa (f fD) z) (f eP)) (n aa (f dV) (f ab))))))) (n (boot_o_6 P) (n (boot_o_10 P) (n aa (n aa (n aQ (n bi (n cx (f aa) z) (f aa)) (n b8 (f dx) (f fE))) (n ac (n b9 (n c2 (f ab) z) (f dW)) (n ca (f ab) (f aa)))) (n (aG P) (n aR (n ac (n aa (f fS) z) (f dX)) (n ab (f dY) (f ab))) (n bj (n aa (n c3 (f aa) z) (f aa)) (n cy (f aa) (f eQ))))) (n aH (n ab (n ac (n bx (n (dh P) (f ab) z) (f dZ)) (n cb (f aa) (f aa))) (n a4 (n bJ (n c4 (f fT) z) (f eR)) (n ab (f d0) (f fF)))) (n ax (n a5 (n bz (n di (f fG) z) (f d1)) (n cc (f aa) (f eS))) (n ac (n ab gD (f aa)) (n cz (f eT) (f fH)))))) (n af (n aa (n aI (n aJ (n ac (n cA (f fU) z) (f d2)) (n cB (f dy) (f ab))) (n bb (n bK (n c5 (f aa) z) (f d3)) (n cC (f d4) (f aa)))) (n aK (n ac (n bL gF (f d5)) (n cd (f ab) (f eU))) (n bc (n cD (n c6 (f fV) z) (f eV)) (n cE (f aa) (f eW))))) (n ab (n ay (n aX (n bp (n dj (f fI) z) (f d6)) (n cF (f aa) (f fJ))) (n ac (n bM gF (f aa)) (n cG (f d7) (f ab)))) (n ac (n aY (n ac (n ab (f fW) z) (f d8)) (n ce (f fK) (f eX))) (n bq (n cf (f dz) (f aa)) (n cH (f ab) (f aa))))))))
theorem _root_.PySem.W.Fast.te2416337538143141709:Fast.tw2416337538143141709=Fast.tw2416337538143141709:=rfl
noncomputable def _root_.PySem.W.Fast.tw16344131642438623085:Params→BT:=fun P=>n (boot_o_0 P) (n (boot_o_1 P) (n (f3 P) (n (boot_o_7 P) (n aa (n az (n (aL P) (f bk) (f bN)) (n aZ (f (bO P)) (f aa))) (n ag (n aS (f br) (f bP)) (n (bd P) (f bA) z))) (n ab (n ah (n aM (f (bs P)) (f aa)) (n a6 (f aa) (f bQ))) (n aa (n (a0 P) (f bB) (f bR)) (n be (f ci) z)))) (n aa (n aA (n ab (n aN (f bl) (f bS)) (n (a7 P) (f bT) (f bU))) (n aa (n aT (f (bC P)) (f bV)) (n bf (f ac) z))) (n ai (n aj (n (aU P) (f bt) (f bW)) (n a8 (f bD) z)) (n aB (n a1 (f bE) (f aa)) (n (bm P) (f bX) z))))) (n (boot_o_5 P) (n (boot_o_9 P) (n ak (n al (n ab (f (bg P)) (f (bY P))) (n ad (f bZ) (f cn))) (n ac (n (aO P) (f ad) (f aa)) (n ab (f b0) z))) (n aa (n aa (n ad (f ab) (f cp)) (n (a2 P) (f bF) z)) (n bu (n ab (f (bv P)) (f ab)) (n ad (f aa) z)))) (n ae (n am (n aa (n (aC P) (f ad) (f cq)) gH) (n aD (n ad (f ab) (f cr)) (n (a9 P) (f aa) z))) (n aa (n aE (n ab (f (bn P)) (f ab)) (n ad (f bG) z)) (n ad (n (aV P) (f aa) (f b1)) (n ab (f ct) z)))))) (n (boot_o_2 P) (n (boot_o_4 P) (n (boot_o_8 P) (n ab (n an (n aa (f aa) (f b2)) (n a3 (f aa) (f ab))) (n ao (n aa (f bw) (f b3)) (n aa (f b4) z))) (n ap gI (n (ar P) gE (n bh (f cu) z)))) (n (l3 [(1,0,20),(5,0,27),(13,0,32),(18,0,39),(23,0,46),(34,0,53),(36,0,66),(38,0,78),(40,0,90),(42,0,102),(44,0,114),(46,0,126),(48,0,138),(50,0,150),(53,0,162),(60,0,183),(68,0,202),(74,0,207),(79,0,214),(88,0,221),(94,0,226),(101,0,231)]) (n au (n av (n aa (f bo) (f b7)) gE) (n ab (n aW (f aa) (f aa)) (n aa (f (cv P)) z))) (n aw (n aa gE (n ba (f (bH P)) z)) (n aF (n aa (f bI) (f cw)) gB)))) (n (boot_o_6 P) (n (boot_o_10 P) (n aa (n aa (n aQ (f bi) (f b8)) (n ac (f b9) (f ca))) (n (aG P) (n aR (f ac) (f ab)) (n bj (f aa) z))) (n aH (n ab (n ac (f bx) (f cb)) (n a4 (f bJ) z)) (n ax (n a5 (f bz) (f cc)) (n ac (f ab) z)))) (n af (n aa (n aI (n aJ (f ac) (f cB)) (n bb (f bK) (f cC))) (n aK (n ac (f bL) (f cd)) (n bc (f cD) z))) (n ab (n ay (n aX (f bp) (f cF)) (n ac (f bM) z)) (n ac (n aY (f ac) (f ce)) (n bq (f cf) z))))))
theorem _root_.PySem.W.Fast.te16344131642438623085:Fast.tw16344131642438623085=Fast.tw16344131642438623085:=rfl
noncomputable def _root_.PySem.W.Fast.tw10422530250264627086:Params→BT:=fun P=>n (boot_o_0 P) (n (boot_o_1 P) (n (f5 P) (n (boot_o_7 P) (n aa (f az) (f ag)) (n ab (f ah) (f aa))) (n aa (n aA (f ab) (f aa)) (n ai (f aj) (f aB)))) (n (boot_o_5 P) (n (boot_o_9 P) (n ak (f al) (f ac)) (n aa (f aa) (f (ty (cl (S "PatchError") [(w "ValueError")] [(r 57),(w "ValueError"),(w "Exception"),(w "BaseException"),(w "object")] 56 (S "PatchError") true [] [] false none false) [(k (r 48)),none,(k (v "PatchError" 238)),(k (v "PatchError" 246)),(k (b "ValueError.__new__")),(k (vl true))])))) (n ae (n am (f aa) (f aD)) (n aa (f aE) z)))) (n (boot_o_2 P) (n (boot_o_4 P) (n (boot_o_8 P) (n ab (f an) (f ao)) (n ap (f aq) (f (ar P)))) (n (l3 [(1,0,20),(5,0,27),(13,0,32),(18,0,39),(23,0,46),(34,0,53)]) (n au (f av) (f ab)) (n aw (f aa) (f aF)))) (n (boot_o_6 P) (n (boot_o_10 P) (n aa (f aa) (f (aG P))) (n aH (f ab) (f ax))) (n af (n aa (f aI) (f aK)) (n ab (f ay) z))))
theorem _root_.PySem.W.Fast.te10422530250264627086:Fast.tw10422530250264627086=Fast.tw10422530250264627086:=rfl
noncomputable def _root_.PySem.W.Fast.tw15546834737793290190:Params→BT:=fun P=>n (boot_o_0 P) (n (boot_o_1 P) (n (f8 P) (n (boot_o_7 P) (n aa (n az (f (aL P)) (f aZ)) (n ag (f aS) z)) (n ab (n ah (f aM) z) (n aa (f (a0 P)) z))) (n aa gJ (n ai (n aj (f (aU P)) z) (n aB (f a1) z)))) (n (boot_o_5 P) (n (boot_o_9 P) (n ak (n al (f ab) z) (n ac (f (aO P)) z)) (n aa (n aa (f ad) z) (n (ty (cl (S "PatchError") [(w "ValueError")] [(r 57),(w "ValueError"),(w "Exception"),(w "BaseException"),(w "object")] 56 (S "PatchError") true [] [(r 70),(r 82),(r 94)] false none false) [(k (r 48)),none,(k (v "PatchError" 238)),(k (v "PatchError" 246)),(k (b "ValueError.__new__")),(k (vl true))]) (f ab) z))) (n ae (n am (n aa (f (aC P)) z) (n aD (f ad) z)) (n aa (n aE (f ab) z) (n ad (f (aV P)) z))))) (n (boot_o_2 P) (n (boot_o_4 P) (n (boot_o_8 P) gK (n ap (n aq (f aP) z) (n (ar P) (f aa) z))) (n (l3 [(1,0,20),(5,0,27),(13,0,32),(18,0,39),(23,0,46),(34,0,53),(36,0,66),(38,0,78),(40,0,90)]) gL (n aw gB (n aF (f aa) z)))) (n (boot_o_6 P) (n (boot_o_10 P) (n aa (n aa (f aQ) z) (n (aG P) (f aR) z)) (n aH gC (n ax (f a5) z))) (n af (n aa (n aI (f aJ) z) (n aK (f ac) z)) gM)))
theorem _root_.PySem.W.Fast.te15546834737793290190:Fast.tw15546834737793290190=Fast.tw15546834737793290190:=rfl
noncomputable def _root_.PySem.W.Fast.tw12412032741522704720:Params→BT:=fun P=>n (boot_o_0 P) (n (boot_o_1 P) (n (gb P) (n (boot_o_7 P) (gN P) (n ab (n ah (n aM (f (bs P)) z) (f a6)) (n aa (f (a0 P)) (f be)))) (n aa (gO P) (n ai (n aj (n (aU P) (f bt) z) (f a8)) (n aB (f a1) (f (bm P)))))) (n (boot_o_5 P) (n (boot_o_9 P) (gP P) (n aa (n aa (n ad (f ab) z) (f (a2 P))) (n (ty (cl (S "PatchError") [(w "ValueError")] [(r 57),(w "ValueError"),(w "Exception"),(w "BaseException"),(w "object")] 56 (S "PatchError") true [] [(r 70),(r 82),(r 94),(r 106),(r 118),(r 130),(r 142)] false none false) [(k (r 48)),none,(k (v "PatchError" 238)),(k (v "PatchError" 246)),(k (b "ValueError.__new__")),(k (vl true))]) (f ab) (f ad)))) (n ae (n am (n aa (n (aC P) (f ad) z) (f ab)) (n aD (f ad) (f (a9 P)))) (gQ P)))) (n (boot_o_2 P) (n (boot_o_4 P) (n (boot_o_8 P) gR (n ap (n aq (n aP (f aa) z) (f aa)) (n (ar P) (f aa) (f bh)))) (n (l3 [(1,0,20),(5,0,27),(13,0,32),(18,0,39),(23,0,46),(34,0,53),(36,0,66),(38,0,78),(40,0,90),(42,0,102),(44,0,114),(46,0,126),(48,0,138)]) gS (n aw (n aa gB (f ba)) (n aF (f aa) (f aa))))) (n (boot_o_6 P) (n (boot_o_10 P) (gT P) (n aH (n ab (n ac (f bx) z) (f a4)) (n ax (f a5) (f ac)))) (n af (n aa (n aI (n aJ (f ac) z) (f bb)) (n aK (f ac) (f bc))) gU)))
theorem _root_.PySem.W.Fast.te12412032741522704720:Fast.tw12412032741522704720=Fast.tw12412032741522704720:=rfl
noncomputable def _root_.PySem.W.Fast.tw11390007054595057552:Params→BT:=fun P=>n (boot_o_0 P) (n (boot_o_1 P) (n (ge P) (n (boot_o_7 P) (n aa (n az (f (aL P)) z) (n ag (f aS) z)) (n ab (n ah (f aM) z) (f aa))) (n aa gJ (n ai (n aj (f (aU P)) z) (f aB)))) (n (boot_o_5 P) (n (boot_o_9 P) (n ak (n al (f ab) z) (n ac (f (aO P)) z)) (n aa (n aa (f ad) z) (f (ty (cl (S "PatchError") [(w "ValueError")] [(r 57),(w "ValueError"),(w "Exception"),(w "BaseException"),(w "object")] 56 (S "PatchError") true [] [(r 70),(r 82)] false none false) [(k (r 48)),none,(k (v "PatchError" 238)),(k (v "PatchError" 246)),(k (b "ValueError.__new__")),(k (vl true))])))) (n ae (n am (n aa (f (aC P)) z) (f aD)) (n aa (n aE (f ab) z) (f ad))))) (n (boot_o_2 P) (n (boot_o_4 P) (n (boot_o_8 P) (n ab (n an (f aa) z) (n ao (f aa) z)) (n ap (n aq (f aP) z) (f (ar P)))) (n (l3 [(1,0,20),(5,0,27),(13,0,32),(18,0,39),(23,0,46),(34,0,53),(36,0,66),(38,0,78)]) gL (n aw gB (f aF)))) (n (boot_o_6 P) (n (boot_o_10 P) (n aa (n aa (f aQ) z) (n (aG P) (f aR) z)) (n aH gC (f ax))) (n af (n aa (n aI (f aJ) z) (f aK)) (n ab (n ay (f aX) z) (f ac)))))
theorem _root_.PySem.W.Fast.te11390007054595057552:Fast.tw11390007054595057552=Fast.tw11390007054595057552:=rfl
noncomputable def _root_.PySem.W.Fast.tw10806720158910068051:Params→BT:=fun P=>n (boot_o_0 P) (n (boot_o_1 P) (n (gh P) (n (boot_o_7 P) (n aa (n az (n (aL P) (n bk (f aa) z) (f bN)) (n aZ (f (bO P)) (f aa))) (n ag (n aS (f br) (f bP)) (n (bd P) (f bA) (f cg)))) (n ab (n ah (n aM (n (bs P) (f ch) z) (f aa)) (n a6 (f aa) (f bQ))) (n aa (n (a0 P) (f bB) (f bR)) (n be (f ci) (f aa))))) (n aa (n aA (n ab (n aN (n bl (f aa) z) (f bS)) (n (a7 P) (f bT) (f bU))) (n aa (n aT (f (bC P)) (f bV)) (n bf (f ac) (f aa)))) (n ai (n aj (n (aU P) (f bt) (f bW)) (n a8 (f bD) (f cj))) (n aB (n a1 (f bE) (f aa)) (n (bm P) (f bX) (f ck)))))) (n (boot_o_5 P) (n (boot_o_9 P) (n ak (n al (n ab (n (bg P) (f cm) z) (f (bY P))) (n ad (f bZ) (f cn))) (n ac (n (aO P) (f ad) (f aa)) (n ab (f b0) (f ab)))) (n aa (n aa (n ad (f ab) (f cp)) (n (a2 P) (f bF) (f aa))) (n bu (n ab (f (bv P)) (f ab)) (n ad (f aa) (f cP))))) (n ae (n am (n aa (n (aC P) (n ad (f cQ) z) (f cq)) gH) (n aD (n ad (f ab) (f cr)) (n (a9 P) (f aa) (f cs)))) (n aa (n aE (n ab (f (bn P)) (f ab)) (n ad (f bG) (f cU))) (n ad (n (aV P) (f aa) (f b1)) (n ab (f ct) (f ab))))))) (n (boot_o_2 P) (n (boot_o_4 P) (n (boot_o_8 P) (n ab (n an (n aa (n aa (f cV) z) (f b2)) (n a3 (f aa) (f ab))) (n ao (n aa (f bw) (f b3)) (n aa (f b4) (f aa)))) (n ap gI (n (ar P) gE (n bh (f cu) (f ab))))) (n (l3 [(1,0,20),(5,0,27),(13,0,32),(18,0,39),(23,0,46),(34,0,53),(36,0,66),(38,0,78),(40,0,90),(42,0,102),(44,0,114),(46,0,126),(48,0,138),(50,0,150),(53,0,162),(60,0,183),(68,0,202),(74,0,207),(79,0,214),(88,0,221),(94,0,226),(101,0,231),(104,0,238),(114,0,245),(120,0,250),(136,0,257),(141,0,262)]) (n au (n av (n aa (n bo (f ab) z) (f b7)) gE) (n ab (n aW (f aa) (f aa)) (n aa (f (cv P)) (f c0)))) (n aw (n aa gE (n ba (f (bH P)) (f aa))) (n aF (n aa (f bI) (f cw)) gE)))) (n (boot_o_6 P) (n (boot_o_10 P) (n aa (n aa (n aQ (n bi (f cx) z) (f b8)) (n ac (f b9) (f ca))) (n (aG P) (n aR (f ac) (f ab)) (n bj (f aa) (f cy)))) (n aH (n ab (n ac (f bx) (f cb)) (n a4 (f bJ) (f ab))) (n ax (n a5 (f bz) (f cc)) (n ac (f ab) (f cz))))) (n af (n aa (n aI (n aJ (n ac (f cA) z) (f cB)) (n bb (f bK) (f cC))) (n aK (n ac (f bL) (f cd)) (n bc (f cD) (f cE)))) (n ab (n ay (n aX (f bp) (f cF)) (n ac (f bM) (f cG))) (n ac (n aY (f ac) (f ce)) (n bq (f cf) (f cH)))))))
theorem _root_.PySem.W.Fast.te10806720158910068051:Fast.tw10806720158910068051=Fast.tw10806720158910068051:=rfl
noncomputable def _root_.PySem.W.Fast.tw6190694775248187668:Params→BT:=fun P=>n (boot_o_0 P) (n (boot_o_1 P) (n (gj P) (n (boot_o_7 P) (gN P) (n ab (n ah (n aM (f (bs P)) z) (f a6)) (n aa (n (a0 P) (f bB) z) (f be)))) (n aa (n aA (n ab (n aN (f bl) z) (f (a7 P))) (n aa (n aT (f (bC P)) z) (f bf))) (n ai (n aj (n (aU P) (f bt) z) (f a8)) (n aB (n a1 (f bE) z) (f (bm P)))))) (n (boot_o_5 P) (n (boot_o_9 P) (n ak (n al (n ab (f (bg P)) z) (f ad)) (n ac (n (aO P) (f ad) z) (f ab))) (n aa (n aa (n ad (f ab) z) (f (a2 P))) (n bu (n ab (f (bv P)) z) (f ad)))) (n ae (n am (n aa (n (aC P) (f ad) z) (f ab)) (n aD (n ad (f ab) z) (f (a9 P)))) (gQ P)))) (n (boot_o_2 P) (n (boot_o_4 P) (n (boot_o_8 P) gR (n ap (n aq (n aP (f aa) z) (f aa)) (n (ar P) gB (f bh)))) (n (l3 [(1,0,20),(5,0,27),(13,0,32),(18,0,39),(23,0,46),(34,0,53),(36,0,66),(38,0,78),(40,0,90),(42,0,102),(44,0,114),(46,0,126),(48,0,138),(50,0,150)]) (n au (n av (n aa (f bo) z) (f aa)) (n ab (n aW (f aa) z) (f aa))) (n aw (n aa gB (f ba)) (n aF (n aa (f bI) z) (f aa))))) (n (boot_o_6 P) (n (boot_o_10 P) (n aa (n aa (n aQ (f bi) z) (f ac)) (n (aG P) (n aR (f ac) z) (f bj))) (n aH (n ab (n ac (f bx) z) (f a4)) (n ax (n a5 (f bz) z) (f ac)))) (n af (n aa (n aI (n aJ (f ac) z) (f bb)) (n aK (n ac (f bL) z) (f bc))) gU)))
theorem _root_.PySem.W.Fast.te6190694775248187668:Fast.tw6190694775248187668=Fast.tw6190694775248187668:=rfl
noncomputable def _root_.PySem.W.Fast.tw9053020615134862132:Params→BT:=fun P=>n (boot_o_0 P) (n (boot_o_1 P) (n (gl P) (n (boot_o_7 P) (n aa (n az (f (aL P)) z) (f ag)) (n ab (n ah (f aM) z) (f aa))) (n aa (n aA (n ab (f aN) z) (f aa)) (n ai (f aj) (f aB)))) (n (boot_o_5 P) (n (boot_o_9 P) (n ak (n al (f ab) z) (f ac)) (n aa (f aa) (f (ty (cl (S "PatchError") [(w "ValueError")] [(r 57),(w "ValueError"),(w "Exception"),(w "BaseException"),(w "object")] 56 (S "PatchError") true [] [(r 70)] false none false) [(k (r 48)),none,(k (v "PatchError" 238)),(k (v "PatchError" 246)),(k (b "ValueError.__new__")),(k (vl true))])))) (n ae (n am (n aa (f (aC P)) z) (f aD)) (n aa (f aE) (f ad))))) (n (boot_o_2 P) (n (boot_o_4 P) (n (boot_o_8 P) (n ab (n an (f aa) z) (f ao)) (n ap (n aq (f aP) z) (f (ar P)))) (n (l3 [(1,0,20),(5,0,27),(13,0,32),(18,0,39),(23,0,46),(34,0,53),(36,0,66)]) (n au (n av (f aa) z) (f ab)) (n aw (f aa) (f aF)))) (n (boot_o_6 P) (n (boot_o_10 P) (n aa (n aa (f aQ) z) (f (aG P))) (n aH (f ab) (f ax))) (n af (n aa (n aI (f aJ) z) (f aK)) (n ab (f ay) (f ac)))))
theorem _root_.PySem.W.Fast.te9053020615134862132:Fast.tw9053020615134862132=Fast.tw9053020615134862132:=rfl
noncomputable def _root_.PySem.W.Fast.tw8728188391938809301:Params→BT:=fun P=>n (boot_o_0 P) (n (boot_o_1 P) (n (fX P) (n (boot_o_7 P) (n aa (n az (n (aL P) (n bk (f aa) z) (n bN (f dk) z)) (n aZ (n (bO P) (f cI) z) (f aa))) (n ag (n aS (n br (f aa) z) (n bP (f ab) z)) (n (bd P) (n bA (f c7) z) (f cg)))) (n ab (n ah (n aM (n (bs P) (f ch) z) gB) (n a6 gB (f bQ))) (n aa (n (a0 P) (n bB (f ab) z) (n bR (f dC) z)) (n be (n ci (f c8) z) (f aa))))) (n aa (n aA (n ab (n aN (n bl (f aa) z) (n bS (f aa) z)) (n (a7 P) (n bT (f cJ) z) (f bU))) (n aa (n aT (n (bC P) (f c9) z) (n bV (f dl) z)) (n bf (n ac (f (cK P)) z) (f aa)))) (n ai (n aj (n (aU P) (n bt (f aa) z) (n bW (f dG) z)) (n a8 (n bD (f aa) z) (f cj))) (n aB (n a1 (n bE (f cL) z) (f aa)) (n (bm P) (n bX (f dm) z) (f ck)))))) (n (boot_o_5 P) (n (boot_o_9 P) (n ak (n al (n ab (n (bg P) (f cm) z) (n (bY P) (f ab) z)) (n ad (n bZ (f da) z) (f cn))) (n ac (n (aO P) (n ad (f cM) z) gB) (n ab (n b0 (f cN) z) (f ab)))) (n aa (n aa (n ad gC (n cp (f dn) z)) (n (a2 P) (n bF (f cO) z) (f aa))) (n bu (n ab (n (bv P) (f aa) z) (n ab (f dp) z)) (n ad gB (f cP))))) (n ae (n am (n aa (n (aC P) (n ad (f cQ) z) (n cq (f dq) z)) (n ab gD (f ab))) (n aD (n ad (n ab (f cR) z) (n cr (f aa) z)) (n (a9 P) (n aa (f cS) z) (f cs)))) (n aa (n aE (n ab (n (bn P) (f db) z) (n ab (f dr) z)) (n ad (n bG (f cT) z) (f cU))) (n ad (n (aV P) gB (f b1)) (n ab (n ct (f dQ) z) (f ab))))))) (n (boot_o_2 P) (n (boot_o_4 P) (n (boot_o_8 P) (n ab (n an (n aa (n aa (f cV) z) (n b2 (f aa) z)) (n a3 gB (f ab))) (n ao (n aa (n bw (f ab) z) (n b3 (f ds) z)) (n aa (n b4 (f cW) z) (f aa)))) (n ap (n aq (n aP gB gD) (n aa (n b5 (f dc) z) (f b6))) (n (ar P) (n aa (n aa (f cX) z) (n aa (f du) z)) (n bh (n cu (f df) z) (f ab))))) (n (l3 [(1,0,20),(5,0,27),(13,0,32),(18,0,39),(23,0,46),(34,0,53),(36,0,66),(38,0,78),(40,0,90),(42,0,102),(44,0,114),(46,0,126),(48,0,138),(50,0,150),(53,0,162),(60,0,183),(68,0,202),(74,0,207),(79,0,214),(88,0,221),(94,0,226),(101,0,231),(104,0,238),(114,0,245),(120,0,250),(136,0,257),(141,0,262),(156,0,269),(181,0,318),(187,0,325),(193,0,332),(198,0,339),(209,0,344)]) (n au (n av (n aa (n bo (f ab) z) (n b7 (f dT) z)) (n aa gB (f aa))) (n ab (n aW (n aa (f cY) z) (n aa (f dv) z)) (n aa (n (cv P) (f cZ) z) (f c0)))) (n aw (n aa (n aa (n aa (f dg) z) (n aa (f dw) z)) (n ba (n (bH P) (f ab) z) (f aa))) (n aF (n aa (n bI (f c1) z) (f cw)) (n aa gB (f aa)))))) (n (boot_o_6 P) (n (boot_o_10 P) (n aa (n aa (n aQ (n bi (f cx) z) (n b8 (f dx) z)) (n ac (n b9 (f c2) z) (f ca))) (n (aG P) (n aR (n ac (f aa) z) (n ab (f dY) z)) (n bj (n aa (f c3) z) (f cy)))) (n aH (n ab (n ac (n bx (f (dh P)) z) (n cb (f aa) z)) (n a4 (n bJ (f c4) z) (f ab))) (n ax (n a5 (n bz (f di) z) (f cc)) (n ac gD (f cz))))) (n af (n aa (n aI (n aJ (n ac (f cA) z) (n cB (f dy) z)) (n bb (n bK (f c5) z) (f cC))) (n aK (n ac (n bL (f aa) z) (n cd (f ab) z)) (n bc (n cD (f c6) z) (f cE)))) (n ab (n ay (n aX (n bp (f dj) z) (n cF (f aa) z)) (n ac (n bM (f aa) z) (f cG))) (n ac (n aY (n ac (f ab) z) (f ce)) (n bq (n cf (f dz) z) (f cH)))))))
theorem _root_.PySem.W.Fast.te8728188391938809301:Fast.tw8728188391938809301=Fast.tw8728188391938809301:=rfl
noncomputable def _root_.PySem.W.Fast.tw10307256766055753333:Params→BT:=fun P=>n (boot_o_0 P) (n (boot_o_1 P) (n (gp P) (n (boot_o_7 P) (n aa (n az (n (aL P) (f bk) z) (f aZ)) (n ag (f aS) (f (bd P)))) (n ab (n ah (f aM) (f a6)) (n aa (f (a0 P)) (f be)))) (n aa (gO P) (n ai (n aj (f (aU P)) (f a8)) (n aB (f a1) (f (bm P)))))) (n (boot_o_5 P) (n (boot_o_9 P) (gP P) (n aa (n aa (f ad) (f (a2 P))) (n (ty (cl (S "PatchError") [(w "ValueError")] [(r 57),(w "ValueError"),(w "Exception"),(w "BaseException"),(w "object")] 56 (S "PatchError") true [] [(r 70),(r 82),(r 94),(r 106),(r 118),(r 130)] false none false) [(k (r 48)),none,(k (v "PatchError" 238)),(k (v "PatchError" 246)),(k (b "ValueError.__new__")),(k (vl true))]) (f ab) (f ad)))) (n ae (gV P) (n aa (n aE (f ab) (f ad)) (n ad (f (aV P)) (f ab)))))) (n (boot_o_2 P) (n (boot_o_4 P) (n (boot_o_8 P) (n ab (n an gB (f a3)) (n ao (f aa) (f aa))) (n ap (n aq (f aP) (f aa)) (n (ar P) (f aa) (f bh)))) (n (l3 [(1,0,20),(5,0,27),(13,0,32),(18,0,39),(23,0,46),(34,0,53),(36,0,66),(38,0,78),(40,0,90),(42,0,102),(44,0,114),(46,0,126)]) gS (n aw (n aa (f aa) (f ba)) (n aF (f aa) (f aa))))) (n (boot_o_6 P) (n (boot_o_10 P) (gT P) (n aH (n ab (f ac) (f a4)) (n ax (f a5) (f ac)))) (n af gW (n ab (n ay (f aX) (f ac)) (n ac (f aY) (f bq))))))
theorem _root_.PySem.W.Fast.te10307256766055753333:Fast.tw10307256766055753333=Fast.tw10307256766055753333:=rfl
noncomputable def _root_.PySem.W.Fast.tw16484115060836189654:Params→BT:=fun P=>n (boot_o_0 P) (n (boot_o_1 P) (n (fX P) (n (boot_o_7 P) (n aa (n az (n (aL P) (n bk (f aa) (f d9)) (n bN (f dk) z)) (n aZ (n (bO P) (f cI) (f aa)) (n aa (f ea) z))) (n ag (n aS (n br (f aa) (f aa)) (n bP (f ab) z)) (n (bd P) (n bA (f c7) z) (n cg (f aa) z)))) (n ab (n ah (n aM (n (bs P) (f ch) (f aa)) gB) (n a6 gE (n bQ (f dA) z))) (n aa (n (a0 P) (n bB (f ab) (f dB)) (n bR (f dC) z)) (n be (n ci (f c8) z) gF)))) (n aa (n aA (n ab (n aN (n bl (f aa) (f ab)) (n bS (f aa) z)) (n (a7 P) (n bT (f cJ) (f dD)) (n bU (f dE) z))) (n aa (n aT (n (bC P) (f c9) (f aa)) (n bV (f dl) z)) (n bf (n ac (f (cK P)) z) (n aa (f eh) z)))) (n ai (n aj (n (aU P) (n bt (f aa) (f dF)) (n bW (f dG) z)) (n a8 (n bD (f aa) z) (n cj (f aa) z))) (n aB (n a1 (n bE (f cL) (f aa)) (n aa (f ac) z)) (n (bm P) (n bX (f dm) z) (n ck (f dH) z)))))) (n (boot_o_5 P) (n (boot_o_9 P) (n ak (n al (n ab (n (bg P) (f cm) (f dI)) (n (bY P) (f ab) z)) (n ad (n bZ (f da) (f ek)) (n cn (f aa) z))) (n ac (n (aO P) (n ad (f cM) (f dJ)) gB) (n ab (n b0 (f cN) z) (n ab (f dK) z)))) (n aa (n aa (n ad (n ab (f ac) (f en)) (n cp (f dn) z)) (n (a2 P) (n bF (f cO) (f dL)) gF)) (n bu (n ab (n (bv P) (f aa) (f ab)) (n ab (f dp) z)) (n ad gB (n cP (f aa) z))))) (n ae (n am (n aa (n (aC P) (n ad (f cQ) (f dM)) (n cq (f dq) z)) (n ab gH (n ab (f eq) z))) (n aD (n ad (n ab (f cR) (f es)) (n cr (f aa) z)) (n (a9 P) (n aa (f cS) z) (n cs (f dN) z)))) (n aa (n aE (n ab (n (bn P) (f db) (f ab)) (n ab (f dr) z)) (n ad (n bG (f cT) z) (n cU (f dO) z))) (n ad (n (aV P) (n aa (f aa) (f dP)) (n b1 (f aa) z)) (n ab (n ct (f dQ) z) (n ab (f aa) z))))))) (n (boot_o_2 P) (n (boot_o_4 P) (n (boot_o_8 P) (n ab (n an (n aa (n aa (f cV) (f dR)) (n b2 (f aa) z)) (n a3 gX (n ab (f ez) z))) (n ao (n aa (n bw (f ab) (f eA)) (n b3 (f ds) z)) (n aa (n b4 (f cW) z) gF))) (n ap (n aq (n aP gX gD) (n aa (n b5 (f dc) (f eE)) (n b6 (f aa) z))) (n (ar P) (n aa (n aa (f cX) (f aa)) (n aa (f du) z)) (n bh (n cu (f df) z) (n ab (f dS) z))))) (n fY (n au (n av (n aa (n bo (f ab) (f eH)) (n b7 (f dT) z)) (n aa gE gB)) (n ab (n aW (n aa (f cY) (f ab)) (n aa (f dv) z)) (n aa (n (cv P) (f cZ) z) (n c0 (f dU) z)))) (n aw (n aa (n aa (n aa (f dg) (f aa)) (n aa (f dw) z)) (n ba (n (bH P) (f ab) z) (n aa (f eM) z))) (n aF (n aa (n bI (f c1) (f eO)) (n cw (f (dt [(d P "__module__" 666 (v "patchkin.desk" 605)),(d P "__qualname__" 668 (v "Desk" 667)),(d P "__firstlineno__" 670 (vi 217 669)),(d P "__init__" 677 (r 359)),(d P "begin" 685 (r 366)),(d P "stores" 692 (r 373)),(d P "patches" 699 (r 380)),(d P "has" 705 (r 385)),(d P "record" 711 (r 390)),(d P "cut" 717 (r 395)),(d P "back" 727 (r 402)),(d P "take" 733 (r 407)),(d P "drop" 743 (r 414)),(d P "leans" 749 (r 419))] 14)) z)) (n aa gB (n aa (f dV) z)))))) (n (boot_o_6 P) (n (boot_o_10 P) (n aa (n aa (n aQ (n bi (f cx) (f aa)) (n b8 (f dx) z)) (n ac (n b9 (f c2) (f dW)) (n ca (f ab) z))) (n (aG P) (n aR (n ac (f aa) (f dX)) (n ab (f dY) z)) (n bj (n aa (f c3) z) (n cy (f aa) z)))) (n aH (n ab (n ac (n bx (f (dh P)) (f dZ)) (n cb (f aa) z)) (n a4 (n bJ (f c4) z) (n ab (f d0) z))) (n ax (n a5 (n bz (f di) (f d1)) (n cc (f aa) z)) (n ac gD (n cz (f eT) z))))) (n af (n aa (n aI (n aJ (n ac (f cA) (f d2)) (n cB (f dy) z)) (n bb (n bK (f c5) (f d3)) (n cC (f d4) z))) (n aK (n ac (n bL (f aa) (f d5)) (n cd (f ab) z)) (n bc (n cD (f c6) z) (n cE (f aa) z)))) (n ab (n ay (n aX (n bp (f dj) (f d6)) (n cF (f aa) z)) (n ac (n bM (f aa) z) (n cG (f d7) z))) (n ac (n aY (n ac (f ab) (f d8)) (n ce (f (l3 [(219,4,358),(224,4,365),(230,4,372),(233,4,379),(236,4,384),(240,4,389),(250,4,394),(259,4,401),(265,4,406),(275,4,413),(283,4,418),(287,4,425)])) z)) (n bq (n cf (f dz) z) (n cH (f ab) z)))))))
theorem _root_.PySem.W.Fast.te16484115060836189654:Fast.tw16484115060836189654=Fast.tw16484115060836189654:=rfl
noncomputable def _root_.PySem.W.Fast.tw10820030585045229656:Params→BT:=fun P=>n (boot_o_0 P) (n (boot_o_1 P) (n (boot_o_3 P) (f (boot_o_7 P)) (f aa)) (n (boot_o_5 P) (f (boot_o_9 P)) (f ae))) (n (boot_o_2 P) (n (boot_o_4 P) (f (boot_o_8 P)) (f ab)) (n (boot_o_6 P) (f (boot_o_10 P)) (f af)))
theorem _root_.PySem.W.Fast.te10820030585045229656:Fast.tw10820030585045229656=Fast.tw10820030585045229656:=rfl
noncomputable def _root_.PySem.W.Fast.tw8019483270138130841:Params→BT:=fun P=>n (boot_o_0 P) (n (boot_o_1 P) (n (gu P) (n (boot_o_7 P) (n aa (n az (n (aL P) (n bk (f aa) (f d9)) (n bN (f dk) (f ab))) (n aZ (n (bO P) (f cI) (f aa)) (n aa (f ea) (f aa)))) (n ag (n aS (n br (f aa) (f aa)) (n bP (f ab) (f eb))) (n (bd P) (n bA (f c7) (f e1)) (n cg (f aa) (f ec))))) (n ab (n ah (n aM (n (bs P) (f ch) (f aa)) (n aa (f aa) (f e3))) (n a6 gE (n bQ (f dA) (f ab)))) (n aa (n (a0 P) (n bB (f ab) (f dB)) (n bR (f dC) (f ed))) (n be (n ci (f c8) (f aa)) (n aa (f ab) (f ee)))))) (n aa (n aA (n ab (n aN (n bl (f aa) (f ab)) (n bS (f aa) (f ef))) (n (a7 P) (n bT (f cJ) (f dD)) (n bU (f dE) (f e6)))) (n aa (n aT (n (bC P) (f c9) (f aa)) (n bV (f dl) (f eg))) (n bf (n ac (f (cK P)) (f ab)) (n aa (f eh) (f ei))))) (n ai (n aj (n (aU P) (n bt (f aa) (f dF)) (n bW (f dG) (f ab))) (n a8 (n bD (f aa) (f aa)) (n cj (f aa) (f ej)))) (n aB (n a1 (n bE (f cL) (f aa)) (n aa (f ac) (f aa))) (n (bm P) (n bX (f dm) (f fb)) (n ck (f dH) z)))))) (n (boot_o_5 P) (n (boot_o_9 P) (n ak (n al (n ab (n (bg P) (f cm) (f dI)) (n (bY P) (f ab) (f aa))) (n ad (n bZ (f da) (f ek)) (n cn (f aa) (f el)))) (n ac (n (aO P) (n ad (f cM) (f dJ)) gE) (n ab (n b0 (f cN) (f em)) (n ab (f dK) (f ff))))) (n aa (n aa (n ad (n ab (f ac) (f en)) (n cp (f dn) (f eo))) (n (a2 P) (n bF (f cO) (f dL)) gG)) (n bu (n ab (n (bv P) (f aa) (f ab)) (n ab (f dp) (f ab))) (n ad (n aa (f aa) (f ep)) (n cP (f aa) (f fg)))))) (n ae (n am (n aa (n (aC P) (n ad (f cQ) (f dM)) (n cq (f dq) (f aa))) (n ab gH (n ab (f eq) (f er)))) (n aD (n ad (n ab (f cR) (f es)) (n cr (f aa) (f fi))) (n (a9 P) (n aa (f cS) (f et)) (n cs (f dN) (f (eu P)))))) (n aa (n aE (n ab (n (bn P) (f db) (f ab)) (n ab (f dr) (f aa))) (n ad (n bG (f cT) (f ev)) (n cU (f dO) (f aa)))) (n ad (n (aV P) (n aa (f aa) (f dP)) (n b1 (f aa) (f ew))) (n ab (n ct (f dQ) (f ex)) (n ab (f aa) z))))))) (n (boot_o_2 P) (n (boot_o_4 P) (n (boot_o_8 P) (n ab (n an (n aa (n aa (f cV) (f dR)) (n b2 (f aa) (f ey))) (n a3 gX (n ab (f ez) (f ab)))) (n ao (n aa (n bw (f ab) (f eA)) (n b3 (f ds) (f eB))) (n aa (n b4 (f cW) (f eC)) gG))) (n ap (n aq (n aP gX (n ab (f ab) (f eD))) (n aa (n b5 (f dc) (f eE)) (n b6 (f aa) (f eF)))) (n (ar P) (n aa (n aa (f cX) (f aa)) (n aa (f du) (f aa))) (n bh (n cu (f df) (f ab)) (n ab (f dS) (f eG)))))) (n fY (n au (n av (n aa (n bo (f ab) (f eH)) (n b7 (f dT) (f eI))) (n aa gE (n aa (f aa) (f eJ)))) (n ab (n aW (n aa (f cY) (f ab)) (n aa (f dv) (f aa))) (n aa (n (cv P) (f cZ) (f fz)) (n c0 (f dU) (f eK))))) (n aw (n aa (n aa (n aa (f dg) (f aa)) (n aa (f dw) (f eL))) (n ba (n (bH P) (f ab) (f ab)) (n aa (f eM) (f eN)))) (n aF (n aa (n bI (f c1) (f eO)) (n cw (f (fB P)) (f fC))) (n aa (n aa (f aa) (f eP)) (n aa (f dV) z)))))) (n (boot_o_6 P) (n (boot_o_10 P) (n aa (n aa (n aQ (n bi (f cx) (f aa)) (n b8 (f dx) (f fE))) (n ac (n b9 (f c2) (f dW)) (n ca (f ab) (f aa)))) (n (aG P) (n aR (n ac (f aa) (f dX)) (n ab (f dY) (f ab))) (n bj (n aa (f c3) (f aa)) (n cy (f aa) (f eQ))))) (n aH (n ab (n ac (n bx (f (dh P)) (f dZ)) (n cb (f aa) (f aa))) (n a4 (n bJ (f c4) (f eR)) (n ab (f d0) (f fF)))) (n ax (n a5 (n bz (f di) (f d1)) (n cc (f aa) (f eS))) (n ac (n ab (f ab) (f aa)) (n cz (f eT) (f fH)))))) (n af (n aa (n aI (n aJ (n ac (f cA) (f d2)) (n cB (f dy) (f ab))) (n bb (n bK (f c5) (f d3)) (n cC (f d4) (f aa)))) (n aK (n ac (n bL (f aa) (f d5)) (n cd (f ab) (f eU))) (n bc (n cD (f c6) (f eV)) (n cE (f aa) (f eW))))) (n ab (n ay (n aX (n bp (f dj) (f d6)) (n cF (f aa) (f fJ))) (n ac (n bM (f aa) (f aa)) (n cG (f d7) (f ab)))) (n ac (n aY (n ac (f ab) (f d8)) (n ce (f fK) (f eX))) (n bq (n cf (f dz) (f aa)) (n cH (f ab) z)))))))
theorem _root_.PySem.W.Fast.te8019483270138130841:Fast.tw8019483270138130841=Fast.tw8019483270138130841:=rfl
noncomputable def _root_.PySem.W.Fast.tw11764079109386491389:Params→BT:=fun P=>n (boot_o_0 P) (n (boot_o_1 P) (n (gv P) (n (boot_o_7 P) (n aa (n az (f (aL P)) (f aZ)) (n ag (f aS) (f (bd P)))) (n ab (n ah (f aM) (f a6)) (n aa (f (a0 P)) (f be)))) (n aa (n aA (n ab (f aN) (f (a7 P))) (n aa (f aT) (f bf))) (n ai (n aj (f (aU P)) (f a8)) (n aB (f a1) z)))) (n (boot_o_5 P) (n (boot_o_9 P) (n ak (n al (f ab) (f ad)) (n ac (f (aO P)) (f ab))) (n aa (n aa (f ad) (f (a2 P))) (n (ty (cl (S "PatchError") [(w "ValueError")] [(r 57),(w "ValueError"),(w "Exception"),(w "BaseException"),(w "object")] 56 (S "PatchError") true [] [(r 70),(r 82),(r 94),(r 106),(r 118)] false none false) [(k (r 48)),none,(k (v "PatchError" 238)),(k (v "PatchError" 246)),(k (b "ValueError.__new__")),(k (vl true))]) (f ab) z))) (n ae (gV P) (n aa (n aE (f ab) (f ad)) (n ad (f (aV P)) z))))) (n (boot_o_2 P) (n (boot_o_4 P) (n (boot_o_8 P) (n ab (n an (f aa) (f a3)) (n ao (f aa) (f aa))) (n ap (n aq (f aP) (f aa)) (n (ar P) (f aa) (f bh)))) (n (l3 [(1,0,20),(5,0,27),(13,0,32),(18,0,39),(23,0,46),(34,0,53),(36,0,66),(38,0,78),(40,0,90),(42,0,102),(44,0,114)]) (n au (n av (f aa) (f aa)) (n ab (f aW) (f aa))) gY)) (n (boot_o_6 P) (n (boot_o_10 P) (n aa (n aa (f aQ) (f ac)) (n (aG P) (f aR) (f bj))) gZ) (n af gW (n ab (n ay (f aX) (f ac)) (n ac (f aY) z)))))
theorem _root_.PySem.W.Fast.te11764079109386491389:Fast.tw11764079109386491389=Fast.tw11764079109386491389:=rfl
noncomputable def _root_.PySem.W.Fast.tw6555905276680795519:Params→BT:=fun P=>n (boot_o_0 P) (n (boot_o_1 P) (n (gy P) (n (boot_o_7 P) (n aa (n az (f (aL P)) (f aZ)) (n ag (f aS) z)) (n ab (n ah (f aM) (f a6)) (n aa (f (a0 P)) z))) (n aa (n aA (n ab (f aN) (f (a7 P))) (n aa (f aT) z)) (n ai (n aj (f (aU P)) (f a8)) (n aB (f a1) z)))) (n (boot_o_5 P) (n (boot_o_9 P) (n ak (n al (f ab) (f ad)) (n ac (f (aO P)) z)) (n aa (n aa (f ad) (f (a2 P))) (n (ty (cl (S "PatchError") [(w "ValueError")] [(r 57),(w "ValueError"),(w "Exception"),(w "BaseException"),(w "object")] 56 (S "PatchError") true [] [(r 70),(r 82),(r 94),(r 106)] false none false) [(k (r 48)),none,(k (v "PatchError" 238)),(k (v "PatchError" 246)),(k (b "ValueError.__new__")),(k (vl true))]) (f ab) z))) (n ae (n am (n aa (f (aC P)) (f ab)) (n aD (f ad) z)) (n aa (n aE (f ab) z) (n ad (f (aV P)) z))))) (n (boot_o_2 P) (n (boot_o_4 P) (n (boot_o_8 P) gK (n ap (n aq (f aP) (f aa)) (n (ar P) (f aa) z))) (n (l3 [(1,0,20),(5,0,27),(13,0,32),(18,0,39),(23,0,46),(34,0,53),(36,0,66),(38,0,78),(40,0,90),(42,0,102)]) (n au (n av (f aa) (f aa)) (n ab (f aW) z)) gY)) (n (boot_o_6 P) (n (boot_o_10 P) (n aa (n aa (f aQ) (f ac)) (n (aG P) (f aR) z)) gZ) (n af (n aa (n aI (f aJ) (f bb)) (n aK (f ac) z)) gM)))
theorem _root_.PySem.W.Fast.te6555905276680795519:Fast.tw6555905276680795519=Fast.tw6555905276680795519:=rfl
noncomputable def _root_.PySem.W.Fast.tw8407627332246165539:Params→Heap:=fun P=>Heap.mk #[boot_o_0 P,boot_o_1 P,boot_o_2 P,eY P,boot_o_4 P,boot_o_5 P,boot_o_6 P,boot_o_7 P,boot_o_8 P,boot_o_9 P,boot_o_10 P,aa,fR,ae,af,aa,ab,ak,aa,aA,au,am,aa,ab,ap,aa,aH,ai,aw,aa,ab,az,an,al,aa,ab,av,aa,aI,ah,aq,aa,ab,aj,aa,aE,ay,ag,ao,ac,aG P,aa,ab,aD,aK,aa,ar P,bu,ax,aB,aF,ad,ac,aL P,aa,ab,aQ,aN,aa,aC P,aJ,aM,aP,ad,ac,aU P,aa,ab,aX,aS,aa,aO P,aR,aT,aW,ad,ac,a0 P,aa,ab,a5,a1,aa,aV P,aY,aZ,a3,ad,ac,a7 P,aa,ab,bb,a6,aa,a2 P,a4,a8,ba,ad,ac,bd P,aa,ab,bj,bf,aa,a9 P,bc,be,bh,ad,ac,bm P,aa,ab,bq,bk,aa,bg P,bi,bl,bo,ad,ac,bs P,aa,ab,bx,bt,aa,bn P,bp,br,bw,ad,ac,bC P,aa,ab,bL,bB,aa,bv P,bz,bE,bI,aa,ac,bO P,aa,bZ,b9,bT,aa,ab,bK,aa,b5,bF,bJ,bD,bH P,bG,bM,bA,b4,b0,aa,ac,cv P,aa,cD,ci,cu,aa,ab,bX,aa,ct,cf,bN,b2,bY P,b8,bS,b7,cq,cB,aa,ab,cp,cb,bW,aa,ab,cF,bP,b3,aa,ab,bV,aa,cr,cd,bR,aa,ab,cc,aa,cw,b1,ce,aa,ab,cn,ca,bU,aa,ab,cC,bQ,b6,aa,ab,cj,aa,cU,cG,cg,aa,ab,cy,aa,c0,cs,cE,aa,ab,cP,cz,ck,aa,ab,cH,aa,cV,cm,cx,aa,ab,cQ,cA,ch,aa,ac,dh P,aa,dg,db,dj,aa,ab,cM,aa,c9,cY,cR,aa,ab,cX,aa,di,cL,c1,aa,ab,cI,aa,da,c2,cJ,aa,ab,c5,aa,dc,cO,c4,aa,ab,cT,aa,c7,cW,cN,c3,cK P,cZ,cS,c6,c8,df,aa,ab,dm,aa,dQ,dz,dk,aa,ab,dx,aa,dT,dq,dy,aa,ab,dn,aa,dG,dw,dr,aa,ab,ds,aa,dY,dl,dv,aa,ab,dC,du,dp,aa,ac,fB P,aa,fK,ea,ez,aa,ab,dE,aa,eq,d4,dA,aa,ab,d0,aa,eM,dO,d7,aa,ab,dK,aa,eh,dU,dN,aa,ab,dS,aa,eT,dH,dV,aa,ab,d9,dR,dI,aa,ab,eH,dM,d2,aa,ab,en,dZ,dF,aa,ab,d6,aa,eA,dJ,dX,aa,ab,es,d5,dB,aa,ab,d1,aa,eO,dP,d8,aa,ab,ek,dW,dD,aa,ab,d3,aa,eE,dL,eR,aa,ab,ev,aa,e1,eC,em,aa,ab,fz,et,eV,aa,ab,ep,aa,fb,eP,ex,aa,ab,ey,aa,fE,ef,eI,aa,ab,e3,eD,eo,aa,ab,eL,aa,fJ,eb,eB,aa,ab,eg,aa,fi,eU,ed,aa,ab,eS,aa,fC,ew,eX,aa,ab,el,aa,e6,eJ,er,aa,ab,eF,aa,fF,ej,eN,aa,ab,ec,aa,ff,eQ,ei,eK,eu P,eW,ee,eG,fg,fH,aa,ab,fk,aa,fL,fm,fc,aa,ab,fu,aa,fU,e2,fq,aa,ab,e8,aa,fQ,fI,e0,aa,ab,fS,e7,fx,aa,ab,e4,aa,fP,fG,fa,aa,ab,fW,eZ,fo,aa,ab,fN,fw,fh,aa,ab,fs,aa,fT,e9,fA,aa,ab,fM,fp,fe,aa,ab,fy,aa,fV,e5,ft,aa,ab,fv "law" "law" (x 51),fD,fj] (Life.mk [] [] [] 0 [] [] false #[] [] 0 false false false 0 [2000,10,10] false 0 true [] [] 0 false)
theorem _root_.PySem.W.Fast.te8407627332246165539:Fast.tw8407627332246165539=Fast.tw8407627332246165539:=rfl
noncomputable def _root_.PySem.W.Fast.tw12920447224051999338:Params→Heap:=fun P=>Heap.mk #[boot_o_0 P,boot_o_1 P,boot_o_2 P,boot_o_3 P,boot_o_4 P,boot_o_5 P,boot_o_6 P,boot_o_7 P,boot_o_8 P,boot_o_9 P,boot_o_10 P,aa,ab,ae,af] (Life.mk [] [] [] 0 [] [] false #[] [] 0 false false false 0 [2000,10,10] false 0 true [] [] 0 false)
theorem _root_.PySem.W.Fast.te12920447224051999338:Fast.tw12920447224051999338=Fast.tw12920447224051999338:=rfl
noncomputable def _root_.PySem.W.Fast.tw10635210618065007906:Params→Frag:=fun P=>[(2,boot_o_2 P),(3,eY P),(15,aa),(17,ak),(18,aa),(20,au),(21,am),(22,aa),(24,ap),(25,aa),(27,ai),(28,aw),(29,aa),(32,an),(33,al),(34,aa),(36,av),(37,aa),(39,ah),(40,aq),(41,aa),(43,aj),(44,aa),(46,ay),(47,ag),(48,ao),(55,aa),(56,ar P),(57,bu),(58,ax),(61,ad),(68,aa),(69,aC P),(70,aJ),(73,ad),(80,aa),(81,aO P),(82,aR),(85,ad),(92,aa),(93,aV P),(94,aY),(97,ad),(104,aa),(105,a2 P),(106,a4),(109,ad),(116,aa),(117,a9 P),(118,bc),(121,ad),(128,aa),(129,bg P),(130,bi),(133,ad),(140,aa),(141,bn P),(142,bp),(145,ad),(152,aa),(153,bv P),(154,bz),(164,aa),(166,bK),(167,aa),(169,bF),(170,bJ),(171,bD),(172,bH P),(173,bG),(174,bM),(175,bA),(185,aa),(187,bX),(188,aa),(190,cf),(191,bN),(192,b2),(193,bY P),(194,b8),(195,bS),(196,b7),(199,aa),(202,cb),(203,bW),(204,aa),(207,bP),(208,b3),(209,aa),(211,bV),(212,aa),(214,cd),(215,bR),(216,aa),(218,cc),(219,aa),(221,b1),(222,ce),(223,aa),(226,ca),(227,bU),(228,aa),(231,bQ),(232,b6),(233,aa),(235,cj),(236,aa),(238,cG),(239,cg),(240,aa),(242,cy),(243,aa),(245,cs),(246,cE),(247,aa),(250,cz),(251,ck),(252,aa),(254,cH),(255,aa),(257,cm),(258,cx),(259,aa),(262,cA),(263,ch),(271,aa),(273,cM),(274,aa),(276,cY),(277,cR),(278,aa),(280,cX),(281,aa),(283,cL),(284,c1),(285,aa),(287,cI),(288,aa),(290,c2),(291,cJ),(292,aa),(294,c5),(295,aa),(297,cO),(298,c4),(299,aa),(301,cT),(302,aa),(304,cW),(305,cN),(306,c3),(307,cK P),(308,cZ),(309,cS),(310,c6),(313,aa),(315,dm),(316,aa),(318,dz),(319,dk),(320,aa),(322,dx),(323,aa),(325,dq),(326,dy),(327,aa),(329,dn),(330,aa),(332,dw),(333,dr),(334,aa),(336,ds),(337,aa),(339,dl),(340,dv),(341,aa),(344,du),(345,dp),(353,aa),(355,dE),(356,aa),(358,d4),(359,dA),(360,aa),(362,d0),(363,aa),(365,dO),(366,d7),(367,aa),(369,dK),(370,aa),(372,dU),(373,dN),(374,aa),(376,dS),(377,aa),(379,dH),(380,dV),(381,aa),(384,dR),(385,dI),(386,aa),(389,dM),(390,d2),(391,aa),(394,dZ),(395,dF),(396,aa),(398,d6),(399,aa),(401,dJ),(402,dX),(403,aa),(406,d5),(407,dB),(408,aa),(410,d1),(411,aa),(413,dP),(414,d8),(415,aa),(418,dW),(419,dD),(420,aa),(422,d3),(423,aa),(425,dL),(426,eR),(427,aa),(429,ev),(430,aa),(432,eC),(433,em),(434,aa),(437,et),(438,eV),(439,aa),(441,ep),(442,aa),(444,eP),(445,ex),(446,aa),(448,ey),(449,aa),(451,ef),(452,eI),(453,aa),(456,eD),(457,eo),(458,aa),(460,eL),(461,aa),(463,eb),(464,eB),(465,aa),(467,eg),(468,aa),(470,eU),(471,ed),(472,aa),(474,eS),(475,aa),(477,ew),(478,eX),(479,aa),(481,el),(482,aa),(484,eJ),(485,er),(486,aa),(488,eF),(489,aa),(491,ej),(492,eN),(493,aa),(495,ec),(496,aa),(498,eQ),(499,ei),(500,eK),(501,eu P),(502,eW),(503,ee),(504,eG),(507,aa),(509,fk),(510,aa),(512,fm),(513,fc),(514,aa),(516,fu),(517,aa),(519,e2),(520,fq),(521,aa),(523,e8),(524,aa),(526,fI),(527,e0),(528,aa),(531,e7),(532,fx),(533,aa),(535,e4),(536,aa),(538,fG),(539,fa),(540,aa),(543,eZ),(544,fo),(545,aa),(548,fw),(549,fh),(550,aa),(552,fs),(553,aa),(555,e9),(556,fA),(557,aa),(560,fp),(561,fe),(562,aa),(564,fy),(565,aa),(567,e5),(568,ft),(569,aa),(572,fD),(573,fj)]
theorem _root_.PySem.W.Fast.te10635210618065007906:Fast.tw10635210618065007906=Fast.tw10635210618065007906:=rfl
noncomputable def _root_.PySem.W.Fast.tw6038908122810844448:List Stmt:=[x 25,x 26,x 27,x 28,x 29]
theorem _root_.PySem.W.Fast.te6038908122810844448:Fast.tw6038908122810844448=Fast.tw6038908122810844448:=rfl
noncomputable def _root_.PySem.W.Fast.tw16183619631959986914:List Stmt:=[x 11]
theorem _root_.PySem.W.Fast.te16183619631959986914:Fast.tw16183619631959986914=Fast.tw16183619631959986914:=rfl
noncomputable def _root_.PySem.W.Fast.tw13706689995240828484:List Stmt:=[x 34,x 35,x 36,x 37,x 38]
theorem _root_.PySem.W.Fast.te13706689995240828484:Fast.tw13706689995240828484=Fast.tw13706689995240828484:=rfl
noncomputable def _root_.PySem.W.Fast.tw3209548383753695237:List Stmt:=[x 39]
theorem _root_.PySem.W.Fast.te3209548383753695237:Fast.tw3209548383753695237=Fast.tw3209548383753695237:=rfl
noncomputable def _root_.PySem.W.Fast.tw9133056143648795941:List Stmt:=[x 13]
theorem _root_.PySem.W.Fast.te9133056143648795941:Fast.tw9133056143648795941=Fast.tw9133056143648795941:=rfl
noncomputable def _root_.PySem.W.Fast.tw14868984615188440135:List Stmt:=[x 9]
theorem _root_.PySem.W.Fast.te14868984615188440135:Fast.tw14868984615188440135=Fast.tw14868984615188440135:=rfl
noncomputable def _root_.PySem.W.Fast.tw16206806133718018825:List Stmt:=[x 18,x 19,x 20,x 21,x 22,x 23,x 24]
theorem _root_.PySem.W.Fast.te16206806133718018825:Fast.tw16206806133718018825=Fast.tw16206806133718018825:=rfl
noncomputable def _root_.PySem.W.Fast.tw12682627439064686891:List Stmt:=[x 30,x 31,x 32,x 33]
theorem _root_.PySem.W.Fast.te12682627439064686891:Fast.tw12682627439064686891=Fast.tw12682627439064686891:=rfl
noncomputable def _root_.PySem.W.Fast.tw11980405365225659915:List Stmt:=[x 0,x 1,x 2,x 3,x 4,x 5,x 6,x 7]
theorem _root_.PySem.W.Fast.te11980405365225659915:Fast.tw11980405365225659915=Fast.tw11980405365225659915:=rfl
noncomputable def _root_.PySem.W.Fast.tw11826030169704986605:List Stmt:=[x 40,x 41,x 42,x 43,x 44,x 45,x 46,x 47,x 48,x 49,x 50,x 51]
theorem _root_.PySem.W.Fast.te11826030169704986605:Fast.tw11826030169704986605=Fast.tw11826030169704986605:=rfl
noncomputable def _root_.PySem.W.Fast.tw1284405864012831636:List Stmt:=[x 8]
theorem _root_.PySem.W.Fast.te1284405864012831636:Fast.tw1284405864012831636=Fast.tw1284405864012831636:=rfl
noncomputable def _root_.PySem.W.Fast.tw6238374408760112278:List Stmt:=[x 15,x 16]
theorem _root_.PySem.W.Fast.te6238374408760112278:Fast.tw6238374408760112278=Fast.tw6238374408760112278:=rfl
noncomputable def _root_.PySem.W.Fast.tw7577932090384217273:List Stmt:=[x 17]
theorem _root_.PySem.W.Fast.te7577932090384217273:Fast.tw7577932090384217273=Fast.tw7577932090384217273:=rfl
noncomputable def _root_.PySem.W.Fast.tw7042195418075111645:List Stmt:=[x 12]
theorem _root_.PySem.W.Fast.te7042195418075111645:Fast.tw7042195418075111645=Fast.tw7042195418075111645:=rfl
noncomputable def _root_.PySem.W.Fast.tw1062287482997595549:List Stmt:=[x 10]
theorem _root_.PySem.W.Fast.te1062287482997595549:Fast.tw1062287482997595549=Fast.tw1062287482997595549:=rfl
noncomputable def _root_.PySem.W.Fast.tw234428183462953693:List Stmt:=[x 14]
theorem _root_.PySem.W.Fast.te234428183462953693:Fast.tw234428183462953693=Fast.tw234428183462953693:=rfl
noncomputable def _root_.PySem.W.Fast.tw10734161083174699783:Program:={PySem.Challenge.pw_patchkin_k12_whole_none_can_be_spared with main:={PySem.Challenge.pw_patchkin_k12_whole_none_can_be_spared.main with body:=[x 0,x 2,x 3,x 4,x 5,x 7,x 8,x 9,x 10,x 11,x 12,x 13,x 14,x 15,x 17,x 18,x 19,x 20,x 21,x 22,x 23,x 24,x 25,x 26,x 27,x 28,x 29,x 30,x 32,x 33,x 34,x 35,x 36,x 37,x 38,x 39,x 41,x 42,x 43,x 44,x 45,x 46,x 47,x 48,x 49,x 50,x 51]}}
theorem _root_.PySem.W.Fast.te10734161083174699783:Fast.tw10734161083174699783=Fast.tw10734161083174699783:=rfl
end TW
namespace PK
open PySem L2
theorem all_mk{l:PySem.W.OpenLaw}{w:World}{K:PySem.W.Frag}{h:Heap}{mg:Str→Option Value}{fa f0 f1 f2 f3 f4 f5 f6 f7 f8 f9 ZC ZD ZE ZF ZG ZH ZI ZJ ZK ZL ZM ZN ZO ZP ZQ ZR ZS ZT ZU ZV f30 ZW ZX ZY ZZ Z0 Z1 Z2 Z3 Z4 Z5 Z6 Z7 Z8 Z9 Z_ f46 f47 f48 f49 f50 f51 f52 f53 f54 f55 f56 hG hV ic gk jr jj i9 iM jy lL jZ qi ie:Addr}{nq lM:Tok}(X:K.In h)(G:h.Ns mainGlobals mg)(hfa:mg "law"=some (.ref fa))
   (Ck:PySem.W.nsIn K mainGlobals "Line"=some (some (.ref hG)))
   (zB:PySem.W.nsIn K mainGlobals "Patch"=some (some (.ref hV)))
   (zC:PySem.W.nsIn K mainGlobals "Sight"=some (some (.ref ic)))
   (Cm:PySem.W.nsIn K mainGlobals "Desk"=some (some (.ref gk)))
   (h0:FI K "counts_with" oR f0)
   (h1:FI K "most_pairs" p0 f1)
   (h2:FI K "place_from" p5 f2)
   (h3:FI K "kept" EO f3)
   (h4:FI K "lines_named_by" kJ f4)
   (h5:FI K "leans_straight_on" jR f5)
   (h6:FI K "live_patches" nM f6)
   (h7:FI K "lines_put" qU f7)
   (h8:FI K "standing_lines" kK f8)
   (h9:FI K "files_with_lines" nN f9)
   (Tx:FI K "straight_ahead" lW ZC)
   (RS:FI K "joined" yV ZD)
   (W6:FI K "all_ahead" oq ZE)
   (W8:FI K "first_free" p6 ZF)
   (W9:FI K "row_of" ur ZG)
   (W_:FI K "check_name" p8 ZH)
   (Xa:FI K "check_places" nO ZI)
   (Xb:FI K "kept_behind" oS ZJ)
   (Xc:FI K "new_lines" qV ZK)
   (Xd:FI K "changing_patch" jV ZL)
   (Tz:FI K "_law_cell_at" nQ ZM)
   (RT:FI K "_law_draw" qZ ZN)
   (Xe:FI K "_law_name" q0 ZO)
   (Xf:FI K "_law_text" ow ZP)
   (Xg:FI K "_law_edit" q8 ZQ)
   (Xh:FI K "_law_deed" ox ZR)
   (Xi:FI K "_law_desk" ml ZS)
   (Xj:FI K "_law_names_are" l0 ZT)
   (Xk:FI K "_law_seen" oy ZU)
   (Xl:FI K "_law_leant" qd ZV)
   (Xm:FI K "law" AV f30)
   (Xn:MI K hG "__init__" "Line.__init__" mB ZW)
   (Xo:MI K hV "__init__" "Patch.__init__" lV ZX)
   (Xp:MI K ic "__init__" "Sight.__init__" lX ZY)
   (Xq:MI K ic "is_ahead" "Sight.is_ahead" lY ZZ)
   (Xr:MI K ic "quarrelling" "Sight.quarrelling" kP Z0)
   (Xs:MI K gk "__init__" "Desk.__init__" mD Z1)
   (Xt:MI K gk "begin" "Desk.begin" p_ Z2)
   (Xu:MI K gk "stores" "Desk.stores" sL Z3)
   (Xv:MI K gk "patches" "Desk.patches" nP Z4)
   (TB:MI K gk "has" "Desk.has" qa Z5)
   (RV:MI K gk "record" "Desk.record" l8 Z6)
   (Xw:MI K gk "cut" "Desk.cut" qb Z7)
   (Xx:MI K gk "back" "Desk.back" qW Z8)
   (Xy:MI K gk "take" "Desk.take" ou Z9)
   (Xz:MI K gk "drop" "Desk.drop" qX Z_)
   (XA:MI K gk "leans" "Desk.leans" ni f46)
   (XC:MI K gk "files" "Desk.files" uu f47)
   (XD:MI K gk "row" "Desk.row" qc f48)
   (XE:MI K gk "quarrels" "Desk.quarrels" mE f49)
   (TC:MI K gk "patches_of" "Desk.patches_of" kj f50)
   (RW:MI K gk "sight_of" "Desk.sight_of" mF f51)
   (XF:MI K gk "check_store" "Desk.check_store" k9 f52)
   (XG:MI K gk "check_made" "Desk.check_made" lH f53)
   (XH:MI K gk "check_held" "Desk.check_held" lI f54)
   (XI:MI K gk "check_new" "Desk.check_new" lZ f55)
   (XJ:MI K gk "keep" "Desk.keep" qY f56)
   (Cn:PySem.W.plainGet K hG Str.empty=true)
   (Co:PySem.W.hasDictIn K hG=true)
   (Cp:PySem.W.plainOver K hG=true)
   (Cq:PySem.W.findIn K (.ref hG) "__setattr__"=some (some (.builtin "object.__setattr__")))
   (Cr:PySem.W.makesIn K hG=true)
   (Cs:PySem.W.keepIn K (.ref hG)=true)
   (hE:PySem.W.findIn K (.ref hG) "name"=some none)
   (jI:PySem.W.findIn K (.ref hG) "text"=some none)
   (iI:PySem.W.findIn K (.ref hG) "upper_name"=some none)
   (iJ:PySem.W.findIn K (.ref hG) "lower_name"=some none)
   (zD:PySem.W.plainGet K hV Str.empty=true)
   (zE:PySem.W.hasDictIn K hV=true)
   (zF:PySem.W.plainOver K hV=true)
   (zG:PySem.W.findIn K (.ref hV) "__setattr__"=some (some (.builtin "object.__setattr__")))
   (zH:PySem.W.makesIn K hV=true)
   (zI:PySem.W.keepIn K (.ref hV)=true)
   (iZ:PySem.W.findIn K (.ref hV) "name"=some none)
   (kc:PySem.W.findIn K (.ref hV) "file"=some none)
   (jM:PySem.W.findIn K (.ref hV) "puts"=some none)
   (jN:PySem.W.findIn K (.ref hV) "cuts"=some none)
   (i4:PySem.W.findIn K (.ref hV) "other"=some none)
   (zJ:PySem.W.plainGet K ic Str.empty=true)
   (zK:PySem.W.hasDictIn K ic=true)
   (zL:PySem.W.plainOver K ic=true)
   (zM:PySem.W.findIn K (.ref ic) "__setattr__"=some (some (.builtin "object.__setattr__")))
   (zN:PySem.W.makesIn K ic=true)
   (zO:PySem.W.keepIn K (.ref ic)=true)
   (jA:PySem.W.findIn K (.ref ic) "ahead"=some none)
   (ix:PySem.W.findIn K (.ref ic) "lines"=some none)
   (Ct:PySem.W.plainGet K gk Str.empty=true)
   (Cu:PySem.W.hasDictIn K gk=true)
   (Cv:PySem.W.plainOver K gk=true)
   (Cw:PySem.W.findIn K (.ref gk) "__setattr__"=some (some (.builtin "object.__setattr__")))
   (Cy:PySem.W.makesIn K gk=true)
   (Cz:PySem.W.keepIn K (.ref gk)=true)
   (iT:PySem.W.findIn K (.ref gk) "made"=some none)
   (jf:PySem.W.findIn K (.ref gk) "needs"=some none)
   (iB:PySem.W.findIn K (.ref gk) "held"=some none)
   (oX:PySem.W.nsIn K mainGlobals "PatchError"=some (some (.ref jr)))
   (tQ:PySem.W.nsIn K mainGlobals "BadName"=some (some (.ref jj)))
   (qt:PySem.W.nsIn K mainGlobals "NameTaken"=some (some (.ref i9)))
   (tR:PySem.W.nsIn K mainGlobals "NoStore"=some (some (.ref iM)))
   (tS:PySem.W.nsIn K mainGlobals "NoPatch"=some (some (.ref jy)))
   (wo:PySem.W.nsIn K mainGlobals "NoLine"=some (some (.ref lL)))
   (qu:PySem.W.nsIn K mainGlobals "Unsettled"=some (some (.ref jZ)))
   (CA:PySem.W.nsIn K mainGlobals "Same"=some (some (.ref qi)))
   (zP:PySem.W.nsIn K mainGlobals "Leant"=some (some (.ref ie)))
   (oY:PySem.W.nsIn K mainGlobals "NAME_SIGNS"=some (some (.str (Str.ofString "abcdefghijklmnopqrstuvwxyz0123456789") nq)))
   (mJ:PySem.W.nsIn K mainGlobals "LONGEST_NAME"=some (some (.int 12 lM)))
   (J6:PySem.W.nsIn K mainGlobals "len"=some none)
   (CB:PySem.W.nsIn K mainGlobals "range"=some none)
   (J7:PySem.W.nsIn K mainGlobals "max"=some none)
   (qv:PySem.W.nsIn K mainGlobals "isinstance"=some none)
   (Fl:PySem.W.nsIn K mainGlobals "list"=some none)
   (J9:PySem.W.nsIn K mainGlobals "str"=some none)
   (tT:PySem.W.nsIn K mainGlobals "reversed"=some none)
   (zQ:PySem.W.nsIn K mainGlobals "sorted"=some none)
   (J_:PySem.W.nsIn K mainGlobals "set"=some none)
   (rW:PySem.W.nsIn K mainGlobals "enumerate"=some none)
   (qw:PySem.W.nsIn K mainGlobals "ValueError"=some none)
   (zR:PySem.W.findIn K (.ref ie) "__getattribute__"=some (some (.builtin "BaseException.__getattribute__")))
   (zS:PySem.W.findIn K (.ref ie) "__getattr__"=some none)
   (zT:PySem.W.findIn K (.ref ie) "__class__"=some (some (.builtin "object.__class__")))
   (zU:PySem.W.mroIn K ie (.type "object")=some true)
   (zV:PySem.W.mroIn K ie (.type "BaseException")=some true)
   (oZ:PySem.W.excIn K jr [.type "ValueError",.type "Exception",.type "BaseException",.type "object"] "ValueError.__new__"=true)
   (tU:PySem.W.excIn K jj [.type "ValueError",.type "Exception",.type "BaseException",.type "object"] "ValueError.__new__"=true)
   (qx:PySem.W.excIn K i9 [.type "ValueError",.type "Exception",.type "BaseException",.type "object"] "ValueError.__new__"=true)
   (tV:PySem.W.excIn K iM [.type "ValueError",.type "Exception",.type "BaseException",.type "object"] "ValueError.__new__"=true)
   (tW:PySem.W.excIn K jy [.type "ValueError",.type "Exception",.type "BaseException",.type "object"] "ValueError.__new__"=true)
   (wq:PySem.W.excIn K lL [.type "ValueError",.type "Exception",.type "BaseException",.type "object"] "ValueError.__new__"=true)
   (qy:PySem.W.excIn K jZ [.type "ValueError",.type "Exception",.type "BaseException",.type "object"] "ValueError.__new__"=true)
   (CC:PySem.W.excIn K qi [.type "ValueError",.type "Exception",.type "BaseException",.type "object"] "ValueError.__new__"=true)
   (zW:PySem.W.excIn K ie [.type "ValueError",.type "Exception",.type "BaseException",.type "object"] "ValueError.__new__"=true)
   (j6:PySem.W.kitOne K (.ref ie) (.ref jr)=some true)
   (kZ:PySem.W.kitOne K (.ref ie) (.ref jj)=some false)
   (kq:PySem.W.kitOne K (.ref ie) (.ref i9)=some false)
   (k7:PySem.W.kitOne K (.ref ie) (.ref iM)=some false)
   (k8:PySem.W.kitOne K (.ref ie) (.ref jy)=some false)
   (lP:PySem.W.kitOne K (.ref ie) (.ref lL)=some false)
   (kr:PySem.W.kitOne K (.ref ie) (.ref jZ)=some false)
   (nr:PySem.W.kitOne K (.ref ie) (.ref qi)=some false)
   (l_:PySem.W.kitOne K (.ref ie) (.ref ie)=some true)
   (zX:PySem.W.kitOne K (.ref ie) (.type "ValueError")=some true)
   (zY:(PySem.W.clsIn K ie).isSome=true)
   (yd:ED K ie jr=true)
   (rG:ED K ie ie=true) :
   ∃fd:FuncData,(∀(s:Shared)(v:Value),BindsTo s fd ⟨[v],[]⟩ [("script",v)])∧∀base:Heap,K.In base→base.Ns mainGlobals mg→iw l.prog w K mg base m_ 20 fa fd ["script"] (F_ K):=by
 obtain⟨m0,d0,F0⟩:=h0
 obtain⟨m1,d1,F1⟩:=h1
 obtain⟨m2,d2,F2⟩:=h2
 obtain⟨m3,d3,F3⟩:=h3
 obtain⟨m4,d4,F4⟩:=h4
 obtain⟨m5,d5,F5⟩:=h5
 obtain⟨m6,d6,F6⟩:=h6
 obtain⟨m7,d7,F7⟩:=h7
 obtain⟨m8,d8,F8⟩:=h8
 obtain⟨m9,d9,F9⟩:=h9
 obtain⟨m10,d10,F10⟩:=Tx
 obtain⟨m11,d11,F11⟩:=RS
 obtain⟨m12,d12,F12⟩:=W6
 obtain⟨m13,d13,F13⟩:=W8
 obtain⟨m14,d14,F14⟩:=W9
 obtain⟨m15,d15,F15⟩:=W_
 obtain⟨m16,d16,F16⟩:=Xa
 obtain⟨m17,d17,F17⟩:=Xb
 obtain⟨m18,d18,F18⟩:=Xc
 obtain⟨m19,d19,F19⟩:=Xd
 obtain⟨m20,d20,F20⟩:=Tz
 obtain⟨m21,d21,F21⟩:=RT
 obtain⟨m22,d22,F22⟩:=Xe
 obtain⟨m23,d23,F23⟩:=Xf
 obtain⟨m24,d24,F24⟩:=Xg
 obtain⟨m25,d25,F25⟩:=Xh
 obtain⟨m26,d26,F26⟩:=Xi
 obtain⟨m27,d27,F27⟩:=Xj
 obtain⟨m28,d28,F28⟩:=Xk
 obtain⟨m29,d29,F29⟩:=Xl
 obtain⟨m30,d30,F30⟩:=Xm
 obtain⟨XM,d31,F31⟩:=Xn
 obtain⟨XN,d32,F32⟩:=Xo
 obtain⟨XO,d33,F33⟩:=Xp
 obtain⟨m34,d34,F34⟩:=Xq
 obtain⟨m35,d35,F35⟩:=Xr
 obtain⟨XQ,d36,F36⟩:=Xs
 obtain⟨m37,d37,F37⟩:=Xt
 obtain⟨m38,d38,F38⟩:=Xu
 obtain⟨m39,d39,F39⟩:=Xv
 obtain⟨m40,d40,F40⟩:=TB
 obtain⟨m41,d41,F41⟩:=RV
 obtain⟨m42,d42,F42⟩:=Xw
 obtain⟨m43,d43,F43⟩:=Xx
 obtain⟨m44,d44,F44⟩:=Xy
 obtain⟨m45,d45,F45⟩:=Xz
 obtain⟨m46,d46,F46⟩:=XA
 obtain⟨m47,d47,F47⟩:=XC
 obtain⟨m48,d48,F48⟩:=XD
 obtain⟨m49,d49,F49⟩:=XE
 obtain⟨m50,d50,F50⟩:=TC
 obtain⟨m51,d51,F51⟩:=RW
 obtain⟨m52,d52,F52⟩:=XF
 obtain⟨m53,d53,F53⟩:=XG
 obtain⟨m54,d54,F54⟩:=XH
 obtain⟨m55,d55,F55⟩:=XI
 obtain⟨m56,d56,F56⟩:=XJ
 have e:=hfa.symm.trans (aaj X G m30)
 cases e
 have T:Txt mg:=⟨aaY X G J6,aaY X G CB,aaY X G J7,aaY X G qv,aaY X G Fl,aaY X G J9,aaY X G tT,aaY X G zQ,aaY X G J_,aaY X G rW,aaY X G qw⟩
 have O:Ok K mg (Ad.mk f0 d0 f1 d1 f2 d2 f3 d3 ZW d31 ZX d32 f4 d4 f5 d5 f6 d6 f7 d7 f8 d8 f9 d9 ZC d10 ZD d11 ZE d12 ZF d13 ZG d14 ZY d33 ZZ d34 Z0 d35 ZH d15 ZI d16 ZJ d17 ZK d18 ZL d19 Z1 d36 Z2 d37 Z3 d38 Z4 d39 Z5 d40 Z6 d41 Z7 d42 Z8 d43 Z9 d44 Z_ d45 f46 d46 f47 d47 f48 d48 f49 d49 f50 d50 f51 d51 f52 d52 f53 d53 f54 d54 f55 d55 f56 d56 ZM d20 ZN d21 ZO d22 ZP d23 ZQ d24 ZR d25 ZS d26 ZT d27 ZU d28 ZV d29 hG hV ic gk jr jj i9 iM jy lL jZ qi ie nq lM ()):=⟨⟨F0,F0.binds fun _ _ _ _ _ _ us hl=>(by obtain⟨_,_,_,rfl⟩:=EK hl;rfl),aaj X G m0⟩,⟨F1,F1.binds fun _ _ _ _ _ _ us hl=>(by obtain⟨_,_,rfl⟩:=ln2 hl;rfl),aaj X G m1⟩,⟨F2,F2.binds fun _ _ _ _ _ _ us hl=>(by obtain⟨_,_,_,rfl⟩:=EK hl;rfl),aaj X G m2⟩,⟨F3,F3.binds fun _ _ _ _ _ _ us hl=>(by obtain⟨_,_,rfl⟩:=ln2 hl;rfl),aaj X G m3⟩,⟨F31,F31.binds fun _ _ _ _ _ _ us hl=>(by obtain⟨_,_,_,_,_,rfl⟩:=UR hl;rfl),XM⟩,⟨F32,F32.binds fun _ _ _ _ _ _ us hl=>(by obtain⟨_,_,_,_,_,_,rfl⟩:=XZ hl;rfl),XN⟩,⟨F4,F4.binds fun _ _ _ _ _ _ us hl=>(by obtain⟨_,rfl⟩:=GQ hl;rfl),aaj X G m4⟩,⟨F5,F5.binds fun _ _ _ _ _ _ us hl=>(by obtain⟨_,rfl⟩:=GQ hl;rfl),aaj X G m5⟩,⟨F6,F6.binds fun _ _ _ _ _ _ us hl=>(by obtain⟨_,rfl⟩:=GQ hl;rfl),aaj X G m6⟩,⟨F7,F7.binds fun _ _ _ _ _ _ us hl=>(by obtain⟨_,_,rfl⟩:=ln2 hl;rfl),aaj X G m7⟩,⟨F8,F8.binds fun _ _ _ _ _ _ us hl=>(by obtain⟨_,_,rfl⟩:=ln2 hl;rfl),aaj X G m8⟩,⟨F9,F9.binds fun _ _ _ _ _ _ us hl=>(by obtain⟨_,rfl⟩:=GQ hl;rfl),aaj X G m9⟩,⟨F10,F10.binds fun _ _ _ _ _ _ us hl=>(by obtain⟨_,rfl⟩:=GQ hl;rfl),aaj X G m10⟩,⟨F11,F11.binds fun _ _ _ _ _ _ us hl=>(by obtain⟨_,_,rfl⟩:=ln2 hl;rfl),aaj X G m11⟩,⟨F12,F12.binds fun _ _ _ _ _ _ us hl=>(by obtain⟨_,rfl⟩:=GQ hl;rfl),aaj X G m12⟩,⟨F13,F13.binds fun _ _ _ _ _ _ us hl=>(by obtain⟨_,rfl⟩:=GQ hl;rfl),aaj X G m13⟩,⟨F14,F14.binds fun _ _ _ _ _ _ us hl=>(by obtain⟨_,_,rfl⟩:=ln2 hl;rfl),aaj X G m14⟩,⟨F33,F33.binds fun _ _ _ _ _ _ us hl=>(by obtain⟨_,_,_,rfl⟩:=EK hl;rfl),XO⟩,⟨F34,F34.binds fun _ _ _ _ _ _ us hl=>(by obtain⟨_,_,_,rfl⟩:=EK hl;rfl),m34⟩,⟨F35,F35.binds fun _ _ _ _ _ _ us hl=>(by obtain⟨_,rfl⟩:=GQ hl;rfl),m35⟩,⟨F15,F15.binds fun _ _ _ _ _ _ us hl=>(by obtain⟨_,rfl⟩:=GQ hl;rfl),aaj X G m15⟩,⟨F16,F16.binds fun _ _ _ _ _ _ us hl=>(by obtain⟨_,_,rfl⟩:=ln2 hl;rfl),aaj X G m16⟩,⟨F17,F17.binds fun _ _ _ _ _ _ us hl=>(by obtain⟨_,_,rfl⟩:=ln2 hl;rfl),aaj X G m17⟩,⟨F18,F18.binds fun _ _ _ _ _ _ us hl=>(by obtain⟨_,_,_,rfl⟩:=EK hl;rfl),aaj X G m18⟩,⟨F19,F19.binds fun _ _ _ _ _ _ us hl=>(by obtain⟨_,_,_,_,rfl⟩:=SR hl;rfl),aaj X G m19⟩,⟨F36,F36.binds fun _ _ _ _ _ _ us hl=>(by obtain⟨_,rfl⟩:=GQ hl;rfl),XQ⟩,⟨F37,F37.binds fun _ _ _ _ _ _ us hl=>(by obtain⟨_,_,rfl⟩:=ln2 hl;rfl),m37⟩,⟨F38,F38.binds fun _ _ _ _ _ _ us hl=>(by obtain⟨_,rfl⟩:=GQ hl;rfl),m38⟩,⟨F39,F39.binds fun _ _ _ _ _ _ us hl=>(by obtain⟨_,rfl⟩:=GQ hl;rfl),m39⟩,⟨F40,F40.binds fun _ _ _ _ _ _ us hl=>(by obtain⟨_,_,rfl⟩:=ln2 hl;rfl),m40⟩,⟨F41,F41.binds fun _ _ _ _ _ _ us hl=>(by obtain⟨_,_,_,_,_,rfl⟩:=UR hl;rfl),m41⟩,⟨F42,F42.binds fun _ _ _ _ _ _ us hl=>(by obtain⟨_,_,_,_,_,rfl⟩:=UR hl;rfl),m42⟩,⟨F43,F43.binds fun _ _ _ _ _ _ us hl=>(by obtain⟨_,_,_,_,rfl⟩:=SR hl;rfl),m43⟩,⟨F44,F44.binds fun _ _ _ _ _ _ us hl=>(by obtain⟨_,_,_,_,rfl⟩:=SR hl;rfl),m44⟩,⟨F45,F45.binds fun _ _ _ _ _ _ us hl=>(by obtain⟨_,_,_,rfl⟩:=EK hl;rfl),m45⟩,⟨F46,F46.binds fun _ _ _ _ _ _ us hl=>(by obtain⟨_,_,rfl⟩:=ln2 hl;rfl),m46⟩,⟨F47,F47.binds fun _ _ _ _ _ _ us hl=>(by obtain⟨_,_,rfl⟩:=ln2 hl;rfl),m47⟩,⟨F48,F48.binds fun _ _ _ _ _ _ us hl=>(by obtain⟨_,_,_,rfl⟩:=EK hl;rfl),m48⟩,⟨F49,F49.binds fun _ _ _ _ _ _ us hl=>(by obtain⟨_,_,_,rfl⟩:=EK hl;rfl),m49⟩,⟨F50,F50.binds fun _ _ _ _ _ _ us hl=>(by obtain⟨_,_,rfl⟩:=ln2 hl;rfl),m50⟩,⟨F51,F51.binds fun _ _ _ _ _ _ us hl=>(by obtain⟨_,_,_,rfl⟩:=EK hl;rfl),m51⟩,⟨F52,F52.binds fun _ _ _ _ _ _ us hl=>(by obtain⟨_,_,rfl⟩:=ln2 hl;rfl),m52⟩,⟨F53,F53.binds fun _ _ _ _ _ _ us hl=>(by obtain⟨_,_,rfl⟩:=ln2 hl;rfl),m53⟩,⟨F54,F54.binds fun _ _ _ _ _ _ us hl=>(by obtain⟨_,_,_,rfl⟩:=EK hl;rfl),m54⟩,⟨F55,F55.binds fun _ _ _ _ _ _ us hl=>(by obtain⟨_,_,_,rfl⟩:=EK hl;rfl),m55⟩,⟨F56,F56.binds fun _ _ _ _ _ _ us hl=>(by obtain⟨_,_,_,rfl⟩:=EK hl;rfl),m56⟩,⟨F20,F20.binds fun _ _ _ _ _ _ us hl=>(by obtain⟨_,_,rfl⟩:=ln2 hl;rfl),aaj X G m20⟩,⟨F21,F21.binds fun _ _ _ _ _ _ us hl=>(by obtain⟨_,_,_,rfl⟩:=EK hl;rfl),aaj X G m21⟩,⟨F22,F22.binds fun _ _ _ _ _ _ us hl=>(by obtain⟨_,_,rfl⟩:=ln2 hl;rfl),aaj X G m22⟩,⟨F23,F23.binds fun _ _ _ _ _ _ us hl=>(by obtain⟨_,rfl⟩:=GQ hl;rfl),aaj X G m23⟩,⟨F24,F24.binds fun _ _ _ _ _ _ us hl=>(by obtain⟨_,_,rfl⟩:=ln2 hl;rfl),aaj X G m24⟩,⟨F25,F25.binds fun _ _ _ _ _ _ us hl=>(by obtain⟨_,_,_,_,_,_,rfl⟩:=XZ hl;rfl),aaj X G m25⟩,⟨F26,F26.binds fun _ _ _ _ _ _ us hl=>(by obtain⟨_,_,_,_,rfl⟩:=SR hl;rfl),aaj X G m26⟩,⟨F27,F27.binds fun _ _ _ _ _ _ us hl=>(by obtain⟨_,_,rfl⟩:=ln2 hl;rfl),aaj X G m27⟩,⟨F28,F28.binds fun _ _ _ _ _ _ us hl=>(by obtain⟨_,_,_,rfl⟩:=EK hl;rfl),aaj X G m28⟩,⟨F29,F29.binds fun _ _ _ _ _ _ us hl=>(by obtain⟨_,_,_,rfl⟩:=EK hl;rfl),aaj X G m29⟩,⟨Cn,Co,Cp,Cq⟩,⟨Cr,XM.at_,XM.fn,Cs⟩,aaj X G Ck,hE,jI,iI,iJ,⟨zD,zE,zF,zG⟩,⟨zH,XN.at_,XN.fn,zI⟩,aaj X G zB,iZ,kc,jM,jN,i4,⟨zJ,zK,zL,zM⟩,⟨zN,XO.at_,XO.fn,zO⟩,aaj X G zC,jA,ix,⟨Ct,Cu,Cv,Cw⟩,⟨Cy,XQ.at_,XQ.fn,Cz⟩,aaj X G Cm,iT,jf,iB,⟨aaj X G oX,oZ⟩,⟨aaj X G tQ,tU⟩,⟨aaj X G qt,qx⟩,⟨aaj X G tR,tV⟩,⟨aaj X G tS,tW⟩,⟨aaj X G wo,wq⟩,⟨aaj X G qu,qy⟩,⟨aaj X G CA,CC⟩,⟨aaj X G zP,zW⟩,aaj X G oY,aaj X G mJ,⟨zR,zS,zT,zU,zV,zY⟩,j6,kZ,kq,k7,k8,lP,kr,nr,l_,zX,yd,rG,True.intro⟩
 refine⟨d30,fun s v=>?_,fun base _ _=>N6 F30 T O⟩
 obtain⟨_,_,_,_,_,_,_,_,_,rfl,_,_⟩:=F30.ex
 exact .of_eq rfl
theorem walk{l:PySem.W.OpenLaw}{q:Program}{loose:List Str}{XP:(Str→Option Value)→Heap→Prop}{YP:World→Heap→Prop}{d:DefRec}{K:Params→PySem.W.Frag}(hn:l.most=some 63)(QU:d.params.defaults=[])
   (hY:∀(w:World)(h:Heap),YP w h→(K w.params).In h)
   (F:∀(w:World)(mg:Str→Option Value)(fa:Addr)(h:Heap),(K w.params).In h→h.Ns mainGlobals mg→mg d.name=some (.ref fa)→
     ∃fd:FuncData,(∀(s:Shared)(u:Value),BindsTo s fd ⟨[u],[]⟩ [("script",u)])∧∀base:Heap,(K w.params).In base→base.Ns mainGlobals mg→iw l.prog w (K w.params) mg base m_ 20 fa fd ["script"] (F_ (K w.params))) :
   PySem.W.WalkO q loose XP YP l.row.toRowW d [] (fun f vs=>PySem.call f vs):=
 L2.KC (n:=63) (k:=20) (x:="script") (CX:=fun _=>m_) (sp:=fun w=>F_ (K w.params)) hn (by decide) QU ⟨rfl,by decide,by decide⟩ hY F (fun _ _ a ns hl _ hS=>⟨a,ns,rfl,hS,hl,fun _=>rfl⟩) fun _ _ _ _ _ z=>z
end PK
open PySem PySem.W PyProof.Rows
theorem PySem.Challenge.cw_patchkin_k12_whole_none_can_be_spared_holds : PySem.Challenge.rw_patchkin_k12_whole_none_can_be_spared.Holds := by
 w_on;o_law;k_head;(case hw=>w_witness2)
 k_fill
 refine PK.walk (l:=PySem.Challenge.rw_patchkin_k12_whole_none_can_be_spared) rfl rfl (fun w h Y=>PySem.W.kIn_of Y) ?F
 case F=>
   intro w mg fa h KX G QV
   refine' PK.all_mk KX G QV ?zqCk ?zqzB ?zqzC ?zqCm ?zqh0 ?zqh1 ?zqh2 ?zqh3 ?zqh4 ?zqh5 ?zqh6 ?zqh7 ?zqh8 ?zqh9 ?zqTx ?zqRS ?zqW6 ?zqW8 ?zqW9 ?zqW_ ?zqXa ?zqXb ?zqXc ?zqXd ?zqTz ?zqRT ?zqXe ?zqXf ?zqXg ?zqXh ?zqXi ?zqXj ?zqXk ?zqXl ?zqXm ?zqXn ?zqXo ?zqXp ?zqXq ?zqXr ?zqXs ?zqXt ?zqXu ?zqXv ?zqTB ?zqRV ?zqXw ?zqXx ?zqXy ?zqXz ?zqXA ?zqXC ?zqXD ?zqXE ?zqTC ?zqRW ?zqXF ?zqXG ?zqXH ?zqXI ?zqXJ ?zqCn ?zqCo ?zqCp ?zqCq ?zqCr ?zqCs ?zqhE ?zqjI ?zqiI ?zqiJ ?zqzD ?zqzE ?zqzF ?zqzG ?zqzH ?zqzI ?zqiZ ?zqkc ?zqjM ?zqjN ?zqi4 ?zqzJ ?zqzK ?zqzL ?zqzM ?zqzN ?zqzO ?zqjA ?zqix ?zqCt ?zqCu ?zqCv ?zqCw ?zqCy ?zqCz ?zqiT ?zqjf ?zqiB ?zqoX ?zqtQ ?zqqt ?zqtR ?zqtS ?zqwo ?zqqu ?zqCA ?zqzP ?zqoY ?zqmJ ?zqJ6 ?zqCB ?zqJ7 ?zqqv ?zqFl ?zqJ9 ?zqtT ?zqzQ ?zqJ_ ?zqrW ?zqqw ?zqzR ?zqzS ?zqzT ?zqzU ?zqzV ?zqoZ ?zqtU ?zqqx ?zqtV ?zqtW ?zqwq ?zqqy ?zqCC ?zqzW ?zqj6 ?zqkZ ?zqkq ?zqk7 ?zqk8 ?zqlP ?zqkr ?zqnr ?zql_ ?zqzX ?zqzY ?zqyd ?zqrG
   (case zqCk|zqzB|zqzC|zqCm=>k_is)
   (case zqh0|zqh1|zqh2|zqh3|zqh4|zqh5|zqh6|zqh7|zqh8|zqh9|zqTx|zqRS|zqW6|zqW8|zqW9|zqW_|zqXa|zqXb|zqXc|zqXd|zqTz|zqRT|zqXe|zqXf|zqXg|zqXh|zqXi|zqXj|zqXk|zqXl|zqXm=>refine' L2.Ql ?a ?l ?c ?k;(case a=>k_is);(case l=>k_is);(case c=>k_is);(case k=>k_is))
   (case zqXn|zqXo|zqXp|zqXq|zqXr|zqXs|zqXt|zqXu|zqXv|zqTB|zqRV|zqXw|zqXx|zqXy|zqXz|zqXA|zqXC|zqXD|zqXE|zqTC|zqRW|zqXF|zqXG|zqXH|zqXI|zqXJ=>refine' L2.Qm ?a ?i ?l ?c ?k;(case a=>k_is);(case i=>k_is);(case l=>k_is);(case c=>k_is);(case k=>k_is))
   (case zqCn|zqCo|zqCp|zqCq|zqCr|zqCs|zqhE|zqjI|zqiI|zqiJ|zqzD|zqzE|zqzF|zqzG|zqzH|zqzI|zqiZ|zqkc|zqjM|zqjN|zqi4|zqzJ|zqzK|zqzL|zqzM|zqzN|zqzO|zqjA|zqix|zqCt|zqCu|zqCv|zqCw|zqCy|zqCz|zqiT|zqjf|zqiB|zqoX|zqtQ|zqqt|zqtR|zqtS|zqwo|zqqu|zqCA|zqzP|zqoY|zqmJ|zqJ6|zqCB|zqJ7|zqqv|zqFl|zqJ9|zqtT|zqzQ|zqJ_|zqrW|zqqw|zqzR|zqzS|zqzT|zqzU|zqzV=>k_is)
   (case zqoZ|zqtU|zqqx|zqtV|zqtW|zqwq|zqqy|zqCC|zqzW=>k_exc)
   (case zqj6|zqkZ|zqkq|zqk7|zqk8|zqlP|zqkr|zqnr|zql_|zqzX=>kit_is)
   (case zqzY|zqyd|zqrG=>kernel_rfl)
#print axioms PySem.Challenge.cw_patchkin_k12_whole_none_can_be_spared_holds
