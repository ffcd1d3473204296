"""Books that are forked and merged under rules."""
