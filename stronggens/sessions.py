"""Sessions: groups that are kept under names, and texts of commands about them."""

from stronggens.checks import check_group
from stronggens.commands import is_name, run_text
from stronggens.errors import BadLoad, BadName, NotText


class Session:
    """Groups under names; kept is the dict of them, earlier the list of what it was ahead of each change."""

    def __init__(self):
        self.kept = {}
        self.earlier = []

    def run(self, text):
        """Run the commands of a text, and return the list of their answers; no command has an effect if one fails."""
        groups, answers = _tried(self.kept, text)
        self.earlier.append(self.kept)
        self.kept = groups
        return answers

    def trial(self, text):
        """Return what run would return, and change nothing."""
        return _tried(self.kept, text)[1]

    def names(self):
        """Return the ascending tuple of the names that stand for groups."""
        return tuple(sorted(self.kept))

    def group_of(self, name):
        """Return the group of a name."""
        if not is_name(name) or name not in self.kept:
            raise BadName("not a name that stands for a group")
        return self.kept[name]

    def load(self, groups):
        """Let each name of a dict stand for its group."""
        if type(groups) is not dict:
            raise BadLoad("not a dict")
        if not all([is_name(name) for name in groups]):
            raise BadName("some key is not a name")
        for name in sorted(groups):
            check_group(groups[name])
        self.earlier.append(self.kept)
        self.kept = {**self.kept, **groups}

    def undo(self):
        """Take back the last run or load that is not yet taken back; tell whether there is one."""
        if not self.earlier:
            return False
        self.kept = self.earlier.pop()
        return True


def _tried(kept, text):
    """Return the groups, and the answers, that the commands of a text lead to."""
    if type(text) is not str:
        raise NotText("not a string")
    groups = {**kept}
    answers = run_text(groups, text)
    return groups, answers
