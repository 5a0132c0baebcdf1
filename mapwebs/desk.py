"""A desk: pictures are kept under names, and worked at by lines."""

from mapwebs.errors import NoLine, NoName, NothingDone
from mapwebs.forms import kinds
from mapwebs.leadings import demand_same_web, many_leadings
from mapwebs.lines import bars
from mapwebs.partings import alike, parting
from mapwebs.pictures import beside
from mapwebs.texts import is_number_word, picture_text, read_picture
from mapwebs.turns import turn

MOST_LETTERS = 8
LETTERS = "abcdefghijklmnopqrstuvwxyz"

# What stands behind each word but lay: a picture's name, a number, any name.
FORMS = {
    "drop": ("picture",),
    "names": (),
    "show": ("picture",),
    "pieces": ("picture",),
    "alike": ("picture", "picture"),
    "leadings": ("picture", "picture"),
    "turn": ("picture", "number", "name"),
    "beside": ("picture", "picture", "name"),
    "kinds": ("picture",),
    "bars": ("picture",),
    "undo": (),
}


def is_name(word):
    """Whether a word may be a picture's name."""
    return 1 <= len(word) <= MOST_LETTERS and all([sign in LETTERS for sign in word])


def is_line(words):
    """Whether these words make up a line that is of one of the forms, but for lay."""
    if words[0] not in FORMS or len(words) != len(FORMS[words[0]]) + 1:
        return False
    for word, part in zip(words[1:], FORMS[words[0]]):
        if part == "number" and not is_number_word(word):
            return False
        if part != "number" and not is_name(word):
            return False
    return True


def words_of_line(line):
    """The list of the words of a line, lay's text as one of them, or NoLine is raised."""
    if not isinstance(line, str) or "\n" in line:
        raise NoLine()
    words = line.split(" ", 2)
    if words[0] == "lay":
        if len(words) != 3 or not is_name(words[1]) or words[2] == "":
            raise NoLine()
        return words
    words = line.split(" ")
    if not is_line(words):
        raise NoLine()
    return words


def names_needed(words):
    """The list of the names in a line's words under which there must be pictures."""
    if words[0] == "lay":
        return []
    return [word for word, part in zip(words[1:], FORMS[words[0]]) if part == "picture"]


def joined(words):
    """The words with blanks between, or that there are none."""
    if len(words) == 0:
        return "none"
    return " ".join(words)


def piece_words(picture):
    """The list of the words for the sizes of a picture's pieces, ascending."""
    sizes = sorted([piece.sizes for piece in parting(picture)[0]])
    return [",".join([str(size) for size in row]) for row in sizes]


def kind_words(picture):
    """The list of the words for the kinds of a picture's web."""
    return ["-" if kind is None else kind[0] + str(kind[1]) for kind in kinds(picture.web)]


def bar_words(picture):
    """The list of the words for a picture's bars."""
    return [str(begin) + "-" + str(end) + ":" + str(many) for begin, end, many in bars(picture)]


def answer(word, pictures):
    """What is told of pictures by a line that changes nothing."""
    if word == "show":
        return picture_text(pictures[0]).replace("\n", "|")
    if word == "pieces":
        return joined(piece_words(pictures[0]))
    if word == "alike":
        return "no" if alike(pictures[0], pictures[1]) is None else "yes"
    if word == "leadings":
        return str(many_leadings(pictures[0], pictures[1]))
    if word == "kinds":
        return joined(kind_words(pictures[0]))
    return joined(bar_words(pictures[0]))


def picture_made(words, pictures):
    """The picture that a line puts under a name, None if it takes away what is there."""
    if words[0] == "lay":
        return read_picture(words[2].replace("|", "\n"))
    if words[0] == "turn":
        return turn(pictures[0], int(words[2]))
    if words[0] == "beside":
        one, other = pictures
        demand_same_web(one, other)
        return beside(one.web, one.prime, pictures)
    return None


class Desk:
    """Pictures under names, and how each change of them is taken back."""

    def __init__(self):
        self.pictures = {}
        self.done = []

    def tell(self, line):
        """Does what a line says, and tells its answer."""
        words = words_of_line(line)
        needed = names_needed(words)
        for name in needed:
            if name not in self.pictures:
                raise NoName(name)
        if words[0] == "undo":
            return self.undo()
        if words[0] == "names":
            return joined(sorted(self.pictures))
        pictures = [self.pictures[name] for name in needed]
        if words[0] in ("lay", "drop", "turn", "beside"):
            name = words[1] if words[0] == "lay" else words[-1]
            elder = self.pictures.get(name)
            self.put(name, picture_made(words, pictures))
            self.done.append((name, elder))
            return "ok"
        return answer(words[0], pictures)

    def put(self, name, picture):
        """Keeps a picture under a name, or nothing more if it is None."""
        if picture is not None:
            self.pictures[name] = picture
        elif name in self.pictures:
            del self.pictures[name]

    def undo(self):
        """Takes back what was done last."""
        if len(self.done) == 0:
            raise NothingDone()
        name, elder = self.done.pop()
        self.put(name, elder)
        return "ok"
