"""Programs as texts, a line for each deed and each end of a body."""

from framerooms.deeds import FORMS, bodies_of, is_deed, parts_of
from framerooms.errors import NoText
from framerooms.programs import Program
from framerooms.words import is_whole_text


def show_program(program):
    return "\n".join(lines_of(program.told()))


def lines_of(body):
    lines = []
    for deed in body:
        lines.append(first_line(deed))
        bodies = bodies_of(deed)
        for turn, inner in enumerate(bodies):
            if turn > 0:
                lines.append("or")
            lines.extend(lines_of(inner))
        if bodies:
            lines.append("end")
    return lines


def first_line(deed):
    words = [deed[0]]
    for kind, part in parts_of(deed):
        words.extend(words_of(kind, part))
    return " ".join(words)


def words_of(kind, part):
    if kind == "body" or (kind == "mark" and part is None):
        return []
    if kind == "mark":
        return ["in", part]
    if part is None:
        return ["none"]
    return [str(part)]


def read_program(text):
    if not isinstance(text, str):
        raise NoText(0)
    # The text without signs has no line, not one without words.
    return Program(read_lines(text.split("\n") if text else []))


def read_lines(lines):
    # For each deed with bodies that has no end yet, outermost first: its head, and its bodies up to now. The
    # first one is the whole, which is never ended.
    levels = [((), [[]])]
    for number, line in enumerate(lines):
        bodies = levels[-1][1]
        head = read_head(line)
        if line == "or" and lacks_body(levels[-1]):
            bodies.append([])
        elif line == "end" and len(levels) > 1 and not lacks_body(levels[-1]):
            done = levels.pop()
            levels[-1][1][-1].append(done[0] + tuple(done[1]))
        elif head is not None and "body" in FORMS[head[0]]:
            levels.append((head, [[]]))
        elif head is not None:
            bodies[-1].append(head)
        else:
            raise NoText(number)
    if len(levels) > 1:
        raise NoText(len(lines))
    return levels[0][1][0]


def lacks_body(level):
    return level[0] == ("either",) and len(level[1]) < 2


def read_head(line):
    """The deed that a line writes, without bodies; None where it writes none."""
    words = line.split(" ")
    if words[0] not in FORMS:
        return None
    kinds = [kind for kind in FORMS[words[0]] if kind != "body"]
    texts = texts_of(words)
    if len(texts) != len(kinds):
        return None
    head = (words[0],) + tuple([read_part(kind, text) for kind, text in zip(kinds, texts)])
    return head if is_deed(head + ((),) * FORMS[words[0]].count("body")) else None


def texts_of(words):
    """The words behind the first one, each being a part's; None stands for a label that isn't there."""
    if words[0] != "make":
        return words[1:]
    if len(words) == 3:
        return words[1:] + [None]
    if len(words) == 5 and words[3] == "in":
        return words[1:3] + words[4:]
    return []


def read_part(kind, text):
    if kind in ("name", "label", "mark"):
        return text
    if kind == "value" and text == "none":
        return None
    # What is no number stays a text, which no deed has in a number's place.
    return int(text) if is_whole_text(text) else text
