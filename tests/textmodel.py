"""Points 68 and 70 written anew: which word of a text is the first one that is not right; and texts that are nearly right."""

import re

NUMBER = re.compile("0|[1-9][0-9]{0,29}")
COLORS = ["white", "grey", "black"]
ENTRIES = [f"{kind}-{color}" for kind in ("load", "old", "new", "source") for color in COLORS]
KINDS = {"start": 0, "load": 3, "store": 3, "move": 2, "clear": 1, "new": 1, "scan": 1, "look": 0, "end": 0}
THREAD_KINDS = {"start": 0, "load": 4, "store": 4, "move": 3, "clear": 2, "new": 2, "scan": 1, "look": 1, "end": 0}
CHANGES = {"add": ENTRIES, "remove": ENTRIES, "fresh": COLORS, "roots": ["once", "again"]}


def is_number(word, below=None):
    return NUMBER.fullmatch(word) is not None and (below is None or int(word) < below)


def is_held(word, many):
    return word == "-" or is_number(word, many)


# Each of these tells whether the word `at` of a line is right behind right ones; where there is no such word, whether the
# line may end there.

def table_word(words, at):
    if at == len(words):
        return at >= 3
    if at < 2:
        return words[at] in [COLORS, ["once:", "again:"]][at]
    if words[at] == "-":
        return len(words) == 3
    return words[at] in ENTRIES and (at == 2 or ENTRIES.index(words[at - 1]) < ENTRIES.index(words[at]))


def heap_word(words, at):
    if at == len(words):
        return at >= 2
    if at == 0:
        return words[0] in ("1:", "2:", "3:", "4:")
    if words[at] == "none":
        return len(words) == 2
    fields = words[at].split(",")
    return at <= 40 and len(fields) == int(words[0][0]) and all(is_held(field, len(words) - 1) for field in fields)


def registers_word(many):
    def right(words, at):
        return at > 0 if at == len(words) else at < 6 and is_held(words[at], many)
    return right


def threads_word(many):
    def right(words, at):
        if at == len(words):
            return "|" in words and words[-1] != "|"
        behind = 0
        while behind < at and words[at - behind - 1] != "|":
            behind += 1
        if words[at] == "|":
            return behind > 0 and words[:at].count("|") < 3
        return behind < 3 and is_held(words[at], many)
    return right


def step_word(kinds, scanning):
    def right(words, at):
        if at == 0:
            return words[0] in kinds
        many = kinds[words[0]] + (words[0] == "scan" and scanning == "fields")
        if at == len(words):
            return at == many + 1
        return at <= many and (is_number(words[at]) or words[0] == "store" and at == many and words[at] == "-")
    return right


def change_word(words, at):
    if at == 0:
        return words[0] in CHANGES
    return at == 2 if at == len(words) else at == 1 and words[1] in CHANGES[words[0]]


def wrong_word(words, right):
    """The first word that is not right, or None."""
    return next((at for at in range(len(words) + 1) if not right(words, at)), None)


def wrong_place(text, due):
    """The line and the word that are not right, or None; `due` gives for each line what it must be, or None behind them."""
    if type(text) is not str:
        return 0, 0
    lines = text.split("\n")
    for line in range(len(lines) + 1):
        right = due(lines, line)
        if line == len(lines):
            return None if right is None or right == "end" else (line, 0)
        if right is None or right == "end" and line == 402:
            return line, 0
        word = wrong_word(lines[line].split(" "), due(lines, line, inner=True))
        if word is not None:
            return line, word
    return None


def one_line(right):
    """What is due in a text of one line."""
    return lambda lines, line, inner=False: right if line == 0 else None


def run_lines(second, kinds, scanning):
    """What is due in a run: `second` makes the second line's words of the number of objects."""
    def due(lines, line, inner=False):
        if line == 0:
            return heap_word
        if line == 1:
            words = lines[0].split(" ")
            return second(0 if words[1] == "none" else len(words) - 1)
        return step_word(kinds, scanning) if inner else "end"
    return due


def due_for(form, scanning="whole"):
    """What is due in a text of this form."""
    return {
        "table": one_line(table_word), "heap": one_line(heap_word), "change": one_line(change_word),
        "step": one_line(step_word(KINDS, scanning)), "run": run_lines(registers_word, KINDS, scanning),
        "thread step": one_line(step_word(THREAD_KINDS, scanning)),
        "thread run": run_lines(threads_word, THREAD_KINDS, scanning),
    }[form]


CHARACTERS = list("-|:, 0123459abekory\n\t\rA") + ["\u00b2", "\u0663", "\u00a0", "\u2028", "\x0b"]
WORDS = ["-", "none", "|", "", "0", "00", "01", "+1", "-1", "1.0", "7", "40", "1" * 30, "1" * 31, "old-grey", "old-white", "once:",
         "again", "black", "start", "load", "store", "scan", "end", "look", "add", "fresh", "/", "1:", "5:", "0,-", ",", "--", "1_0"]


def nearly(text, chance, many):
    """Texts that differ from the text by one of the changes that the tests ask for."""
    yield text
    yield from (" " + text, text + " ", "\n" + text, text + "\n", text + "\n\n", text.replace(" ", "  ", 1), text.replace("\n", " "))
    yield from (text.replace(" ", "\n", 1), text.replace(" ", "\t", 1), text.upper(), text[::-1], text + text, "")
    for _ in range(many):
        at = chance.randint(0, len(text))
        yield text[:at] + chance.choice(CHARACTERS) + text[at:]
        yield text[:at] + text[at + 1:]
        yield text[:at] + chance.choice(CHARACTERS) + text[at + 1:]
        lines = text.split("\n")
        line = chance.randrange(len(lines))
        words = lines[line].split(" ")
        word, other = chance.randrange(len(words)), chance.randrange(len(words))
        swapped = list(words)
        swapped[word], swapped[other] = words[other], words[word]
        for made in (words[:word] + words[word:word + 1] + words[word:], words[:word] + words[word + 1:],
                     words[:word] + [chance.choice(WORDS)] + words[word + 1:], words[:word] + [chance.choice(WORDS)] + words[word:],
                     words + [chance.choice(WORDS)], swapped, words[:word] + [""] + words[word:]):
            yield "\n".join(lines[:line] + [" ".join(made)] + lines[line + 1:])
        yield "\n".join(lines[:line] + lines[line:line + 1] + lines[line:])
        yield "\n".join(lines[:line] + lines[line + 1:])
        yield "\n".join(lines[:line] + [chance.choice(lines)] + lines[line + 1:])
