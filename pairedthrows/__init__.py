"""Pairedthrows: what answers with throws between tell of any one member."""
