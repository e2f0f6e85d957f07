"""Matefloors: which rectangles can be laid with rectangles of told shapes."""
