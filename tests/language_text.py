"""The rules of LANGUAGE.md that speak of files, signs and words: L1, L10, L14, L17, L27."""

import builtins
import io
import re
import tokenize
import warnings

BARRED_WORDS = (
    "type typing typing_extensions enum Enum IntEnum StrEnum Flag IntFlag Generic Protocol ABC ABCMeta "
    "namedtuple NamedTuple TypedDict TYPE_CHECKING abstractmethod"
).split()
BARRED_PARTS = ("dataclass", "overload", "contextmanager")
BARRED_FILES = ("test", "tests", "testing", "site", "conftest", "sitecustomize", "usercustomize")
NOT_PLAIN_ESCAPE = re.compile(r"\\[^nt\\'\"]")


def file_faults(names):
    """Of the paths inside the package's folder. Folders inside it are let through by L14; this program has none."""
    faults = []
    if "__init__.py" not in names:
        faults.append(("L14", "__init__.py", 0, "is missing"))
    if len(names) > 100:
        faults.append(("L14", "", 0, "more than 100 files"))
    for name in names:
        if name != "__init__.py":
            faults += one_file_faults(name)
    return faults


def one_file_faults(name):
    if not re.fullmatch(r"[A-Za-z0-9_]+\.py", name):
        return [("L1", name, 0, "no .py file with a plain name")]
    stem = name[:-3]
    if stem != stem.lower():
        return [("L14", name, 0, "not in lower case")]
    barred = BARRED_FILES + tuple(BARRED_WORDS) + BARRED_PARTS
    if stem in barred or stem.startswith(("law_", "test_")) or hasattr(builtins, stem):
        return [("L14", name, 0, "a name that no file has")]
    if stem.startswith("_"):
        return [("L12", name, 0, "begins with _; the document asks for no __main__ either")]
    return []


def text_faults(name, text):
    faults = []
    lines = text.split("\n")
    if len(lines) - text.endswith("\n") > 400:
        faults.append(("L10", name, 400, "more than 400 lines"))
    for number, line in enumerate(lines, start=1):
        faults += [(rule, name, number, words) for rule, words in line_faults(line)]
    return faults + token_faults(name, text) + warning_faults(name, text)


def line_faults(line):
    faults = []
    if len(line) > 120:
        faults.append(("L10", "more than 120 signs"))
    if "\t" in line:
        faults.append(("L10", "a tab"))
    if re.search(r"[^ -~\t]", line):
        faults.append(("L14", "a sign outside of ASCII"))
    for word in re.findall(r"\w+", line):
        if word in BARRED_WORDS or any(part in word for part in BARRED_PARTS):
            faults.append(("L17", "the word " + word))
    return faults


def token_faults(name, text):
    faults = []
    for token in tokenize.generate_tokens(io.StringIO(text).readline):
        kind = tokenize.tok_name[token.type]
        if kind == "STRING" or kind.startswith("FSTRING"):
            if "%" in token.string:
                faults.append(("L27", name, token.start[0], "the sign % in a string"))
            if NOT_PLAIN_ESCAPE.search(token.string.replace("\\\\", "")):
                faults.append(("L27", name, token.start[0], "an escape"))
        if kind == "NUMBER" and len(token.string) > 900:
            faults.append(("L27", name, token.start[0], "a number of more than 900 figures"))
    return faults


def warning_faults(name, text):
    with warnings.catch_warnings(record=True) as caught:
        warnings.simplefilter("always")
        compile(text, name, "exec")
    return [("L27", name, warning.lineno or 0, "Python warns: " + str(warning.message)) for warning in caught]
