"""Texts of webs and records."""


def web_text(web):
    """The text of a web."""
    links = [f"link {one} {other}" for one, other in web.links]
    hosts = [f"host {host} {web.home(host)}" for host in web.hosts]
    return "\n".join(["web", *links, *hosts])


def record_text(record):
    """The text of a record."""
    notes = [note_text(record[k]) for k in range(len(record))]
    return "\n".join([" ".join(["record", *record.hosts]), " ".join(["watch", *record.watchers]), *notes])


def note_text(note):
    """The text of a frame and of those that saw it."""
    frame, seen = note
    saw = ["saw", *seen] if seen else []
    return " ".join(["note", str(frame), *saw])
