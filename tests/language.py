"""All faults of a package against ../shared/LANGUAGE.md, as tuples (rule, file, line, words)."""

import sys

from language_calls import call_faults, recursion_faults
from language_forms import form_faults
from language_names import cycle_faults, name_faults
from language_package import Package
from language_text import file_faults, text_faults


def faults_in(title, texts):
    """Of the package's name and its files, a dict of their texts by their names."""
    if title in sys.stdlib_module_names:
        return [("L14", title, 0, "the name of a standard module")]
    faults = file_faults(sorted(texts))
    package = Package(title, {name: text for name, text in texts.items() if name.endswith(".py")})
    # Less than both what L14 lets through in all strings and what L3 does at module level.
    if sum(len(file.text) for file in package.files.values()) > 500000:
        faults.append(("L14", title, 0, "too many signs"))
    for file in package.files.values():
        faults += text_faults(file.name, file.text)
        faults += form_faults(package, file) + name_faults(package, file) + call_faults(package, file)
    return sorted(set(faults + cycle_faults(package) + recursion_faults(package)))
