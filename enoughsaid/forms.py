"""The forms of words: names, numbers and the like, as they are written in texts and read from them."""

from enoughsaid.wishes import is_from_nought, is_name

MOST_FIGURES = 10
GREATEST_NUMBER = 9999999999
HEARD_WORDS = ("idle", "strange", "elder", "false", "over", "twice", "done", "never", "no", "ok")


def is_figures(thing):
    """Whether a word is a number, without a nought ahead."""
    if not isinstance(thing, str) or not 1 <= len(thing) <= MOST_FIGURES:
        return False
    return all(["0" <= sign <= "9" for sign in thing]) and (thing == "0" or thing[0] != "0")


def is_word_of(form, word):
    if form == "name":
        return is_name(word)
    if form == "heard":
        return word in HEARD_WORDS
    if form == "truth":
        return word in ("yes", "no")
    return is_figures(word) or (form == "value" and word == "-")


def worth(form, word):
    """What a word of the form stands for."""
    if form in ("name", "heard"):
        return word
    if form == "truth":
        return word == "yes"
    return None if word == "-" else int(word)


def can_show(form, thing):
    """Whether anything can be written by a word of the form."""
    if form == "name":
        return is_name(thing)
    if form == "heard":
        return isinstance(thing, str) and thing in HEARD_WORDS
    if form == "truth":
        return isinstance(thing, bool)
    if thing is None:
        return form == "value"
    return is_from_nought(thing) and thing <= GREATEST_NUMBER


def shown(thing):
    """The word for what can be shown."""
    if thing is None:
        return "-"
    if isinstance(thing, bool):
        return "yes" if thing else "no"
    return str(thing)


def names_shown(names):
    return " ".join(names) if names else "-"


def read_parts(forms, words):
    """What the words are worth, one for each form ("names" at the end: all others), or None where one isn't so."""
    plain = [form for form in forms if form != "names"]
    others = words[len(plain):]
    if len(words) < len(plain) or (others and "names" not in forms):
        return None
    pairs = list(zip(plain, words))
    if not all([is_word_of(form, word) for form, word in pairs]) or not all([is_name(word) for word in others]):
        return None
    parts = [worth(form, word) for form, word in pairs]
    if "names" in forms:
        parts.append(tuple(others))
    return parts


def are_names(thing):
    return isinstance(thing, tuple) and all([is_name(name) for name in thing])


def show_parts(forms, parts):
    """The words for the parts, one for each form, or None where a part isn't of its form."""
    if len(parts) != len(forms):
        return None
    words = []
    for form, part in zip(forms, parts):
        if form == "names" and are_names(part):
            words.extend(part)
        elif form != "names" and can_show(form, part):
            words.append(shown(part))
        else:
            return None
    return words
