"""The rules of LANGUAGE.md that speak of names: L2, L8, L12, L15 to L18, L26.

The names of own methods and attributes are kept apart from those of builtin values altogether.
"""

import ast
import builtins
import re

from language_package import ERRORS, function_around, parameters

BUILTINS = (
    "len range enumerate zip min max sum abs sorted reversed int str bool list tuple dict set isinstance ord repr "
    "any all divmod"
).split()
NOWHERE = "register mro elements open input version_info with_traceback add_note".split()
FRAMES = re.compile(r"(f|tb|co|gi|cr|ag)_(back|next|names|frame|code|globals|locals|builtins|lineno|lasti|trace)")
NOT_BOUND = (
    "attrgetter breakpoint builtins compile copyright credits delattr dir eval exec exit gc getattr globals "
    "hasattr help id importlib license locals methodcaller os quit setattr super type vars sys __name__"
).split()
BUILTIN_MEMBERS = {name for kind in (str, int, list, dict, set, bytes, tuple) for name in dir(kind)}
READING_CALLS = ("len", "list", "tuple", "dict", "sorted", "min", "max", "sum", "any", "all", "enumerate", "zip")
READING_METHODS = ("get", "index", "count", "items", "keys", "values", "copy")


def name_faults(package, file):
    faults = import_faults(package, file) + binding_faults(file) + member_faults(package, file)
    for node in ast.walk(file.tree):
        for rule, words in spelling_faults(node) + meaning_faults(package, file, node):
            faults.append((rule, file.name, getattr(node, "lineno", 0), words))
    return faults


def import_faults(package, file):
    faults = []
    for node in file.nodes(ast.ImportFrom):
        source = package.file_of(node.module)
        rule = None
        if node.level or source is None or source.name == "__main__.py":
            rule = "L2"
        elif not isinstance(node.parent, ast.Module) or any(alias.name == "*" for alias in node.names):
            rule = "L2"
        elif not all(source.defines(alias.name) for alias in node.names) or source is file:
            rule = "L16"
        if rule:
            faults.append((rule, file.name, node.lineno, "an import"))
    if file.name == "__init__.py":
        for name in list(file.imports) + list(file.functions) + list(file.classes) + list(file.values):
            if name + ".py" in package.files:
                faults.append(("L16", file.name, 0, "binds the name of a file"))
    return faults


def cycle_faults(package):
    """Each file that is imported again by what it imports. Whoever imports a file imports __init__ too."""
    ahead = {}
    for file in package.files.values():
        sources = [package.file_of(node.module) for node in file.nodes(ast.ImportFrom)]
        ahead[file.name] = {source.name for source in sources if source}
        if ahead[file.name] and file.name != "__init__.py":
            ahead[file.name].add("__init__.py")
    return [("L16", name, 0, "imported by what it imports") for name in ahead if name in reached(ahead, name)]


def reached(ahead, name):
    found = []
    wanted = list(ahead[name])
    while wanted:
        step = wanted.pop()
        if step not in found:
            found.append(step)
            wanted += ahead.get(step, ())
    return found


def binding_faults(file):
    """Names that are bound twice at module level, and locals that hide what they must not."""
    faults = []
    bound = []
    for node in file.tree.body:
        for name in bound_at_top(node):
            if name in bound:
                faults.append(("L15", file.name, node.lineno, name + " is bound twice"))
            if hasattr(builtins, name):
                faults.append(("L8", file.name, node.lineno, name + " has another meaning"))
            bound.append(name)
    for node, name in local_names(file):
        if name in file.classes or name in file.imports or hasattr(builtins, name):
            faults.append(("L15", file.name, node.lineno, name + " hides something"))
    return faults


def bound_at_top(node):
    if isinstance(node, ast.ImportFrom):
        return [alias.asname or alias.name for alias in node.names]
    if isinstance(node, (ast.FunctionDef, ast.ClassDef)):
        return [node.name]
    return [part.id for part in ast.walk(node) if isinstance(part, ast.Name) and isinstance(part.ctx, ast.Store)]


def local_names(file):
    found = []
    for node in ast.walk(file.tree):
        if isinstance(node, (ast.FunctionDef, ast.Lambda)):
            found += [(node, name) for name in parameters(node)]
        if isinstance(node, ast.Name) and isinstance(node.ctx, ast.Store) and function_around(node):
            found.append((node, node.id))
        if isinstance(node, ast.FunctionDef) and function_around(node.parent):
            found.append((node, node.name))
    return found


def spelled_names(node):
    if isinstance(node, ast.Name):
        return [node.id]
    if isinstance(node, (ast.FunctionDef, ast.ClassDef)):
        return [node.name]
    if isinstance(node, (ast.arg, ast.keyword)):
        return [node.arg]
    if isinstance(node, ast.Attribute):
        return [node.attr]
    if isinstance(node, ast.alias):
        return [node.name] + ([node.asname] if node.asname else [])
    return []


def spelling_faults(node):
    faults = []
    is_method = isinstance(node, ast.FunctionDef) and isinstance(node.parent, ast.ClassDef)
    for name in spelled_names(node):
        if name is None:
            faults.append(("L4", "a double star in a call"))
            continue
        if name in NOWHERE or FRAMES.fullmatch(name):
            faults.append(("L17", "the name " + name))
        if name in NOT_BOUND and not isinstance(node, ast.Attribute):
            faults.append(("L17", "the name " + name))
        if name in ("format", "format_map", "mro") and isinstance(node, ast.Attribute):
            faults.append(("L8", "the attribute " + name))
        if name.startswith("__") and not (name == "__init__" and is_method):
            faults.append(("L8", "the name " + name))
        elif not re.fullmatch(r"[A-Za-z][A-Za-z0-9_]*", name) and not name.startswith("__"):
            faults.append(("L12", "the name " + name))
    return faults


def meaning_faults(package, file, node):
    if isinstance(node, ast.Name) and isinstance(node.ctx, ast.Load):
        return read_faults(package, file, node)
    if isinstance(node, ast.Attribute) and not isinstance(node.ctx, ast.Load):
        around = function_around(node)
        local = isinstance(node.value, ast.Name) and around is not None and node.value.id in names_inside(around)
        return [] if local else [("L18", "an attribute of something that is not local is assigned")]
    if isinstance(node, ast.Attribute):
        called = isinstance(node.parent, ast.Call) and node.parent.func is node
        if not called and node.attr not in package.attributes and not is_key(node):
            return [("L18", "the attribute " + node.attr + " is read and nowhere assigned")]
    return []


def is_key(node):
    return isinstance(node.parent, ast.keyword) and node.parent.arg == "key"


def names_inside(function):
    names = parameters(function)
    for node in ast.walk(function):
        if isinstance(node, ast.Name) and isinstance(node.ctx, ast.Store):
            names.append(node.id)
        if isinstance(node, ast.Lambda):
            names += parameters(node)
    return names


def read_faults(package, file, node):
    around = function_around(node)
    if around is not None and node.id in names_inside(around):
        return []
    if package.own_class(file, node.id):
        return [] if class_stands_well(node) else [("L18", "the class " + node.id + " is passed on")]
    if isinstance(file.values.get(node.id), (ast.List, ast.Dict)):
        return [] if is_only_read(node) else [("L15", "the table " + node.id + " is not only read")]
    if node.id == "chr":
        return [("L27", "chr")]
    if file.binds(node.id) or node.id in BUILTINS or node.id in ERRORS:
        return []
    return [("L8", "the name " + node.id + " means nothing here")]


def class_stands_well(node):
    above = node.parent
    if isinstance(above, ast.Tuple):
        node, above = above, above.parent
    if isinstance(above, ast.Call):
        asked = isinstance(above.func, ast.Name) and above.func.id == "isinstance" and above.args[1:] == [node]
        return above.func is node or asked
    return isinstance(above, (ast.ClassDef, ast.ExceptHandler))


def is_only_read(node):
    above = node.parent
    if isinstance(above, ast.Subscript):
        return above.value is node and isinstance(above.ctx, ast.Load)
    if isinstance(above, (ast.For, ast.comprehension)):
        return above.iter is node
    if isinstance(above, ast.Attribute):
        return isinstance(above.parent, ast.Call) and above.attr in READING_METHODS
    if isinstance(above, ast.Call):
        return isinstance(above.func, ast.Name) and above.func.id in READING_CALLS
    return isinstance(above, ast.Compare)


def member_faults(package, file):
    faults = []
    for owner in file.classes.values():
        methods = [node.name for node in owner.body if isinstance(node, ast.FunctionDef)]
        if len(set(methods)) < len(methods):
            faults.append(("L18", file.name, owner.lineno, "a method is defined twice"))
        for name in methods:
            if name in package.attributes:
                faults.append(("L18", file.name, owner.lineno, name + " is a method and an attribute"))
            if name in BUILTIN_MEMBERS and name != "__init__":
                faults.append(("L26", file.name, owner.lineno, "a method called " + name))
    for node in file.nodes(ast.Attribute):
        if isinstance(node.ctx, ast.Store) and (node.attr in BUILTIN_MEMBERS or node.attr == "args"):
            faults.append(("L26", file.name, node.lineno, "an attribute called " + node.attr))
    return faults
