"""Documents as texts."""

from asyncframes.boxes import (
    MOST_BOXES,
    MOST_SCROLLERS_WITHIN,
    height_of,
    is_height,
    is_number,
    is_scroller,
    number_of,
    parts_of,
)
from asyncframes.errors import TextError

BLANKS = " \n"
SIGNS = "bs:[]"
DIGITS = "0123456789"

# What may stand where something is needed; "parts" is all that may come up
# to the end of a scroller.
ALLOWED = {
    "s": ("s",),
    "number": ("number",),
    ":": (":",),
    "[": ("[",),
    "parts": ("b", "s", "]"),
}

# What is needed behind a word, the last of it first.
NEEDED_BEHIND = {
    "b": ("number", ":", "number"),
    "s": ("parts", "[", "number", ":", "number"),
}


def parse_document(text):
    """The document of a text. Raises TextError."""
    tokens = tokens_of(text)
    check_order(tokens, len(text))
    numbers = [token for token in tokens if kind_of(token[1]) == "number"]
    # Each box has two numbers, and its own one comes before its height.
    check_values(numbers)
    check_twice(numbers[::2])
    check_limits(tokens)
    return built([word for _, word in tokens])


def tokens_of(text):
    """The list of the tokens of a text, each as a tuple (place, word)."""
    tokens = []
    place = 0
    while place < len(text):
        sign = text[place]
        behind = place + 1
        if sign in DIGITS:
            behind = end_of_number(text, place)
        if sign in DIGITS or sign in SIGNS:
            tokens.append((place, text[place:behind]))
        elif sign not in BLANKS:
            raise TextError(place, "unknown character")
        place = behind
    return tokens


def end_of_number(text, place):
    while place < len(text) and text[place] in DIGITS:
        place += 1
    return place


def kind_of(word):
    if word[0] in DIGITS:
        return "number"
    return word


def check_order(tokens, end):
    """Raises the error of tokens that are not those of one scroller."""
    needed = ["s"]
    for place, word in tokens:
        kind = kind_of(word)
        if not needed or kind not in ALLOWED[needed[-1]]:
            raise TextError(place, "unexpected token")
        wanted = needed.pop()
        if wanted == "parts" and kind != "]":
            needed.append("parts")
        needed.extend(NEEDED_BEHIND.get(kind, ()))
    if needed:
        raise TextError(end, "unexpected end")


def value_of(word):
    # Python refuses to read very long numbers. Five digits are out of every
    # range already, so the rest of them is not needed.
    return int(word.lstrip("0")[:5] or "0")


def check_values(numbers):
    """Raises the error of a number or a height that is out of range."""
    for at, (place, word) in enumerate(numbers):
        is_good = is_number(value_of(word)) if at % 2 == 0 else is_height(value_of(word))
        if not is_good:
            raise TextError(place, "out of range")


def check_twice(numbers):
    """Raises the error of a number that an earlier box has."""
    seen = set()
    for place, word in numbers:
        if value_of(word) in seen:
            raise TextError(place, "number twice")
        seen.add(value_of(word))


def check_limits(tokens):
    """Raises the error of too many boxes, or of too many within one another."""
    first_place = tokens[0][0]
    boxes = 0
    level = 0
    deepest = 0
    for _, word in tokens:
        if word in ("b", "s"):
            boxes += 1
        if word == "[":
            level += 1
            deepest = max(deepest, level)
        if word == "]":
            level -= 1
    if boxes > MOST_BOXES:
        raise TextError(first_place, "too many boxes")
    if deepest > MOST_SCROLLERS_WITHIN:
        raise TextError(first_place, "too deep")


def built(words):
    """The document of the words of a text that has no error."""
    # The heads of the scrollers that are not at their ends yet, and the parts
    # that each of them has so far; the first list is for the root alone.
    heads = []
    parts = [[]]
    for at, word in enumerate(words):
        if word == "b":
            parts[-1].append(("block", value_of(words[at + 1]), value_of(words[at + 3])))
        elif word == "s":
            heads.append((value_of(words[at + 1]), value_of(words[at + 3])))
            parts.append([])
        elif word == "]":
            number, height = heads.pop()
            scroller = ("scroller", number, height, tuple(parts.pop()))
            parts[-1].append(scroller)
    return parts[0][0]


def print_document(document):
    """The text of a document."""
    return text_of(document)


def text_of(box):
    head = f"{number_of(box)}:{height_of(box)}"
    if not is_scroller(box):
        return f"b{head}"
    parts = " ".join([text_of(part) for part in parts_of(box)])
    return f"s{head}[{parts}]"
